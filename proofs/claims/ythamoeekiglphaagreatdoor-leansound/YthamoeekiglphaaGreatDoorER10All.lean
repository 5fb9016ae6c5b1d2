/-
  What cartoucheref10.All answers.
-/
import Derived.Test.YthamoeekiglphaaGreatDoorER10AllB
namespace Go.Proofs.YthamoeekiglphaaGreatDoor
set_option maxRecDepth 100000
open Go.RowKit
set_option linter.unusedVariables false
set_option linter.unusedSimpArgs false
attribute [local go_sem] ba_size
set_option maxRecDepth 1000000 in
set_option maxHeartbeats 16000000 in
theorem rall10_any (h:List Ev) (v:Value) (w:World) (hT:IsEvs w v h) (hle:h.length≤300) (hG:∀ x∈h,x.2.2.1.length≤1125899906842624) :
 Calls Tryz.prog 63 #[v] w fun e w'=>EdRow 32 w (edgesL h) e w':=by
 obtain ⟨i0,hi,hz0,hz1,hz2⟩:=info_parts ed_info;have CK:=rkeys_any h v w hT hle hG;have CV:=fun (key:List UInt8) W hW=>rvers_any h v W (hT.below (w':=W) hW) hle key
 have CO:=fun (i:Int) W hW=>router_any h v W (hT.below (w':=W) hW) i
 have HKL:=keys_len h;obtain ⟨a,cap,rfl,h1,h2,h3,HC⟩:=hT.reads;obtain ⟨n,hn⟩:∃ n,h.length=n:=⟨_,rfl⟩;have HN:Hid (h.length=n):=hn;simp only [hn] at CK CV CO;rw [hn] at h1 h3 hle HKL ⊢;clear hT hn;obtain ⟨KS,hKS⟩:∃ KS,keysL h=KS:=⟨_,rfl⟩;have HKS:Hid (keysL h=KS):=hKS;rw [hKS] at CK HKL;clear hKS;go_enter Tryz.func63,Tryz.ntmps63
 go_wp2_with fail
 refine CK.mono ?_;rintro e w1 ⟨kv,rfl,bk,krow⟩;obtain ⟨gk,ck,rfl,hck⟩:=own_slice9 krow;have s1:=bk.size;go_wp2_with fail
 go_loopw [3,5] (fun r i wr=>∃ (k c:Nat),k≤KS.length∧c≤k*(3*n)∧i=.int .i64 k∧Hid ((eTo h k).length=c)∧Below w1.heap.size w1 wr∧wr.ownsRow w1.heap.size 32 5 r c (recV edV (eTo h k))) (fun _ i _=>KS.length - (RowKit.intOf i).toNat)
 case atStart=>exact ⟨0,0,by omega,by omega,rfl,rfl,Below.refl _ _,World.ownsRow_nil _ _ _ _⟩
 case round =>
  obtain ⟨k,c,hk,hc,rfl,HL,hbw,hrow⟩:=hrel;obtain ⟨wo,rfl⟩:∃ x,x=wr:=⟨_,rfl⟩
  by_cases hlt:k < KS.length
  ·obtain ⟨key,hkey⟩:∃ key,KS[k]=key:=⟨_,rfl⟩
   have HKey:Hid (KS[k]=key):=hkey
   obtain ⟨g,rfl⟩:∃ g,gk=some ⟨g,0,none⟩:=by
    rcases krow.2 with ⟨e,h0⟩ | ⟨g,cp,cur,e,_⟩
    ·omega
    ·simp at e;exact ⟨g,e.1⟩
   have hgk:g < w1.heap.size:=(krow.lt g rfl).2
   have ckey:w1.cell? ⟨g,k,none⟩=some (.string ⟨key.toArray⟩):=by
    have e:=krow.cellAt k (by omega);rw [strV_at KS k hlt,hkey] at e;exact e
   have ckw:=(hbw.cell (p:=⟨g,k,none⟩) hgk).trans ckey;have jk:(k:Int) < (KS.length:Int):=by omega
   have hc9:c≤270000:=by
    have:k*(3*n)≤300*(3*300):=Nat.mul_le_mul (by omega) (by omega);omega
   clear hkey;go_wp2_with fail
   refine (CV key wo (bel_trans bk hbw)).mono ?_;rintro e w2 ⟨vv,rfl,bv,vrow⟩;obtain ⟨gv,cv,rfl,hcv⟩:=own_slice9 vrow;obtain ⟨V,hV⟩:∃ V,versL h key=V:=⟨_,rfl⟩;have HV:Hid (versL h key=V):=hV;have hVn:V.length≤n:=by rw [← hV,← HN.out];exact vers_len h key
   have HVL:Hid (∀ m,m < V.length→vAt V m < h.length):=fun m hm=>by
    unfold vAt;rw [List.getD_eq_getElem?_getD,List.getElem?_eq_getElem hm];exact vers_lt h key _ (by rw [HV.out];exact List.getElem_mem hm)
   rw [hV,List.length_map] at vrow hcv ⊢;clear hV;have hrow2:=owns_below hrow bv;have B2:=bel_trans hbw bv;have s2:=bv.size;have s0:=hbw.size;have AP:=apart_low hrow vrow;go_wp2_with fail
   go_loopw [3,7] (fun r i wq=>∃ (q c':Nat),q≤V.length - 1∧c'≤c+q∧i=.int .i64 q∧Hid ((eTo h k++wTo h V q).length=c')∧Below w1.heap.size w1 wq∧wq.ownsRow w1.heap.size 32 5 r c' (recV edV (eTo h k++wTo h V q))∧wq.ownsRow wo.heap.size 3 1 (.slice gv V.length cv) V.length (recV intV (V.map Int.ofNat))∧Hid (Apart10 r (.slice gv V.length cv))) (fun _ i _=>V.length - 1 - (RowKit.intOf i).toNat)
   case atStart=>exact ⟨0,c,by omega,by omega,rfl,(by show _=_;rw [show wTo h V 0=[] from rfl,List.append_nil];exact HL.out),B2,(by rw [show wTo h V 0=[] from rfl,List.append_nil];exact hrow2),vrow,AP⟩
   case round =>
    obtain ⟨q,c',hq,hc',rfl,HL2,hbq,hrowq,vrowq,HAP⟩:=hrel
    by_cases hql:q+1 < V.length
    ·have jq:(q:Int)+1 < (V.length:Int):=by omega
     have jq':(q:Int) < (V.length:Int):=by omega
     obtain ⟨g2,rfl⟩:∃ g2,gv=some ⟨g2,0,none⟩:=by
      rcases vrowq.2 with ⟨e,h0⟩ | ⟨g2,cp,cur,e,_⟩
      ·omega
      ·simp at e;exact ⟨g2,e.1⟩
     have m0:=int_cell vrowq rfl (show q < V.length by omega);have m1:=int_cell vrowq rfl hql;have p0:=HVL.out q (by omega);have p1:=HVL.out (q+1) hql;have HWE:Hid (wTo h V (q+1)=wTo h V q++(wEdge h V q).toList):=wTo_next h V q;have HW0:Hid (wEdge h V q=if tx h (vAt V q)=tx h (vAt V (q+1)) then none else some (1,tx h (vAt V q),tx h (vAt V (q+1)),(vAt V q:Int),(vAt V (q+1):Int))):=rfl;obtain ⟨bb,off,rfl,HQ⟩:=HC.out (by omega);have Bq:=bel_trans bk hbq;have x0:=(HQ.out (vAt V q) p0 _ Bq).2.1;have x1:=(HQ.out (vAt V (q+1)) p1 _ Bq).2.1;have HT0:Hid ((ev h (vAt V q)).2.1=tx h (vAt V q)):=rfl;have HT1:Hid ((ev h (vAt V (q+1))).2.1=tx h (vAt V (q+1))):=rfl;rw [HT0.out] at x0;rw [HT1.out] at x1;obtain ⟨a0,ha0⟩:∃ x,vAt V q=x:=⟨_,rfl⟩
     obtain ⟨a1,ha1⟩:∃ x,vAt V (q+1)=x:=⟨_,rfl⟩;rw [ha0] at m0 p0 x0 HW0;rw [ha1] at m1 p1 x1 HW0;have HA0:Hid (vAt V q=a0):=ha0;have HA1:Hid (vAt V (q+1)=a1):=ha1;clear ha0 ha1 HT0 HT1;obtain ⟨t0,ht0⟩:∃ x,tx h a0=x:=⟨_,rfl⟩;obtain ⟨t1,ht1⟩:∃ x,tx h a1=x:=⟨_,rfl⟩;rw [ht0] at x0 HW0;rw [ht1] at x1 HW0;have HT0:Hid ((ev h a0).2.1=t0):=ht0;have HT1:Hid ((ev h a1).2.1=t1):=ht1;clear ht0 ht1;have ja0:(a0:Int) < (n:Int):=by have:=HN.out;omega
     have ja1:(a1:Int) < (n:Int):=by have:=HN.out;omega
     by_cases d:t0=t1
     ·have e1:(t0 != t1)=false:=by rw [d];simp
      have HE:Hid (wTo h V (q+1)=wTo h V q):=by show _=_;rw [HWE.out,HW0.out,if_pos d];simp
      clear d HWE HW0;go_wp2_with fail
      go_quiet (fail)
      go_wp2_with fail
      refine ⟨⟨q+1,c',by omega,by omega,by first | go_num | simp,by rw [HE.out];exact HL2.out,below_drewN hbq _,by rw [HE.out];exact hrowq,vrowq,HAP⟩,by simp [RowKit.intOf];omega⟩
     ·have e1:(t0 != t1)=true:=by rw [bne_iff_ne];exact d
      have HE:Hid (wTo h V (q+1)=wTo h V q++[(1,t0,t1,(a0:Int),(a1:Int))]):=by show _=_;rw [HWE.out,HW0.out,if_neg d];rfl
      clear d HWE HW0;go_wp2_with fail
      go_quiet (fail)
      go_wp2_with fail
      refine wp_region_any (by kernel_rfl) ?_;change wpAny _ _ _ _ _ _ _ (World.drew _);generalize hwd:World.drew _=wd;have hbd:Below w1.heap.size w1 wd:=by rw [← hwd];exact (below_drewN hbq _).drew
      have hrowd:wd.ownsRow w1.heap.size 32 5 u3 c' (recV edV (eTo h k++wTo h V q)):=by rw [← hwd];exact hrowq
      have vrowd:wd.ownsRow wo.heap.size 3 1 (.slice (some ⟨g2,0,none⟩) V.length cv) V.length (recV intV (V.map Int.ofNat)):=by rw [← hwd];exact vrowq
      have n0:wd.cell? ⟨g2,q,none⟩=some (.int .i64 (a0:Int)):=by rw [← hwd];exact m0
      have n1:wd.cell? ⟨g2,q+1,none⟩=some (.int .i64 (a1:Int)):=by rw [← hwd];exact m1
      have z0:wd.cell? ⟨bb,off+a0*4+1,none⟩=some (.int .i64 t0):=by rw [← hwd];exact x0
      have z1:wd.cell? ⟨bb,off+a1*4+1,none⟩=some (.int .i64 t1):=by rw [← hwd];exact x1
      clear hwd;have sd:=hbd.size;have jw:IntKind.i64.wrap ((q:Int)+1)=(q:Int)+1:=by rw [IntKind.wrap_i64];omega
      have jn:¬ (q:Int)+1 < 0:=by omega
      refine any_of_C (C:=fun V=>V.cell? ⟨g2,q,none⟩=some (.int .i64 (a0:Int))∧V.cell? ⟨g2,q+1,none⟩=some (.int .i64 (a1:Int))∧V.cell? ⟨bb,off+a0*4+1,none⟩=some (.int .i64 t0)∧V.cell? ⟨bb,off+a1*4+1,none⟩=some (.int .i64 t1)) 30 _ _ _ _ ?_;refine takeC (i:=0) (v:=u3) rfl (by kernel_rfl) (by kernel_rfl) (by kernel_rfl) (by kernel_rfl) (by kernel_rfl) (fun _ _ _ h=>h) (Or.inl ⟨by kernel_rfl,fun V hV=>by obtain ⟨r0,r1,r2,r3⟩:=hV;go_simp⟩) ?_;refine takeC (i:=1) (v:=.slice (some ⟨bb,off,none⟩) n cap) rfl (by kernel_rfl) (by kernel_rfl) (by kernel_rfl) (by kernel_rfl) (by kernel_rfl) (fun _ _ _ h=>h) (Or.inl ⟨by kernel_rfl,fun V hV=>by obtain ⟨r0,r1,r2,r3⟩:=hV;go_simp⟩) ?_;refine takeC (i:=2) (v:=.slice (some ⟨g2,0,none⟩) V.length cv) rfl (by kernel_rfl) (by kernel_rfl) (by kernel_rfl) (by kernel_rfl) (by kernel_rfl) (fun _ _ _ h=>h) (Or.inl ⟨by kernel_rfl,fun V hV=>by obtain ⟨r0,r1,r2,r3⟩:=hV;go_simp⟩) ?_
      refine takeC (i:=3) (v:=.int .i64 (q:Int)) rfl (by kernel_rfl) (by kernel_rfl) (by kernel_rfl) (by kernel_rfl) (by kernel_rfl) (fun _ _ _ h=>h) (Or.inl ⟨by kernel_rfl,fun V hV=>by obtain ⟨r0,r1,r2,r3⟩:=hV;go_simp⟩) ?_;refine takeC (i:=4) (v:=.pointer (some ⟨g2,q,none⟩)) rfl (by kernel_rfl) (by kernel_rfl) (by kernel_rfl) (by kernel_rfl) (by kernel_rfl) (fun _ _ _ h=>h) (Or.inl ⟨by kernel_rfl,fun V hV=>by obtain ⟨r0,r1,r2,r3⟩:=hV;go_simp⟩) ?_;refine takeC (i:=5) (v:=.int .i64 (a0:Int)) rfl (by kernel_rfl) (by kernel_rfl) (by kernel_rfl) (by kernel_rfl) (by kernel_rfl) (fun _ _ _ h=>h) (Or.inl ⟨by kernel_rfl,fun V hV=>by obtain ⟨r0,r1,r2,r3⟩:=hV;go_simp⟩) ?_;refine takeC (i:=6) (v:=.pointer (some ⟨bb,off+a0*4,none⟩)) rfl (by kernel_rfl) (by kernel_rfl) (by kernel_rfl) (by kernel_rfl) (by kernel_rfl) (fun _ _ _ h=>h) (Or.inl ⟨by kernel_rfl,fun V hV=>by obtain ⟨r0,r1,r2,r3⟩:=hV;go_simp⟩) ?_
      refine takeC (i:=7) (v:=.pointer (some ⟨bb,off+a0*4+1,none⟩)) rfl (by kernel_rfl) (by kernel_rfl) (by kernel_rfl) (by kernel_rfl) (by kernel_rfl) (fun _ _ _ h=>h) (Or.inl ⟨by kernel_rfl,fun V hV=>by obtain ⟨r0,r1,r2,r3⟩:=hV;go_simp⟩) ?_;refine takeC (i:=8) (v:=.int .i64 t0) rfl (by kernel_rfl) (by kernel_rfl) (by kernel_rfl) (by kernel_rfl) (by kernel_rfl) (fun _ _ _ h=>h) (Or.inl ⟨by kernel_rfl,fun V hV=>by obtain ⟨r0,r1,r2,r3⟩:=hV;go_simp⟩) ?_;refine takeC (i:=9) (v:=.slice (some ⟨bb,off,none⟩) n cap) rfl (by kernel_rfl) (by kernel_rfl) (by kernel_rfl) (by kernel_rfl) (by kernel_rfl) (fun _ _ _ h=>h) (Or.inl ⟨by kernel_rfl,fun V hV=>by obtain ⟨r0,r1,r2,r3⟩:=hV;go_simp⟩) ?_;refine takeC (i:=10) (v:=.slice (some ⟨g2,0,none⟩) V.length cv) rfl (by kernel_rfl) (by kernel_rfl) (by kernel_rfl) (by kernel_rfl) (by kernel_rfl) (fun _ _ _ h=>h) (Or.inl ⟨by kernel_rfl,fun V hV=>by obtain ⟨r0,r1,r2,r3⟩:=hV;go_simp⟩) ?_
      refine takeC (i:=11) (v:=.int .i64 (q:Int)) rfl (by kernel_rfl) (by kernel_rfl) (by kernel_rfl) (by kernel_rfl) (by kernel_rfl) (fun _ _ _ h=>h) (Or.inl ⟨by kernel_rfl,fun V hV=>by obtain ⟨r0,r1,r2,r3⟩:=hV;go_simp⟩) ?_;refine takeC (i:=12) (v:=.int .i64 ((q:Int)+1)) rfl (by kernel_rfl) (by kernel_rfl) (by kernel_rfl) (by kernel_rfl) (by kernel_rfl) (fun _ _ _ h=>h) (Or.inl ⟨by kernel_rfl,fun V hV=>by obtain ⟨r0,r1,r2,r3⟩:=hV;go_simp⟩) ?_;refine takeC (i:=13) (v:=.pointer (some ⟨g2,q+1,none⟩)) rfl (by kernel_rfl) (by kernel_rfl) (by kernel_rfl) (by kernel_rfl) (by kernel_rfl) (fun _ _ _ h=>h) (Or.inl ⟨by kernel_rfl,fun V hV=>by obtain ⟨r0,r1,r2,r3⟩:=hV;go_simp⟩) ?_;refine takeC (i:=14) (v:=.int .i64 (a1:Int)) rfl (by kernel_rfl) (by kernel_rfl) (by kernel_rfl) (by kernel_rfl) (by kernel_rfl) (fun _ _ _ h=>h) (Or.inl ⟨by kernel_rfl,fun V hV=>by obtain ⟨r0,r1,r2,r3⟩:=hV;go_simp⟩) ?_
      refine takeC (i:=15) (v:=.pointer (some ⟨bb,off+a1*4,none⟩)) rfl (by kernel_rfl) (by kernel_rfl) (by kernel_rfl) (by kernel_rfl) (by kernel_rfl) (fun _ _ _ h=>h) (Or.inl ⟨by kernel_rfl,fun V hV=>by obtain ⟨r0,r1,r2,r3⟩:=hV;go_simp⟩) ?_;refine takeC (i:=16) (v:=.pointer (some ⟨bb,off+a1*4+1,none⟩)) rfl (by kernel_rfl) (by kernel_rfl) (by kernel_rfl) (by kernel_rfl) (by kernel_rfl) (fun _ _ _ h=>h) (Or.inl ⟨by kernel_rfl,fun V hV=>by obtain ⟨r0,r1,r2,r3⟩:=hV;go_simp⟩) ?_;refine takeC (i:=17) (v:=.int .i64 t1) rfl (by kernel_rfl) (by kernel_rfl) (by kernel_rfl) (by kernel_rfl) (by kernel_rfl) (fun _ _ _ h=>h) (Or.inl ⟨by kernel_rfl,fun V hV=>by obtain ⟨r0,r1,r2,r3⟩:=hV;go_simp⟩) ?_;refine takeC (i:=18) (v:=.slice (some ⟨g2,0,none⟩) V.length cv) rfl (by kernel_rfl) (by kernel_rfl) (by kernel_rfl) (by kernel_rfl) (by kernel_rfl) (fun _ _ _ h=>h) (Or.inl ⟨by kernel_rfl,fun V hV=>by obtain ⟨r0,r1,r2,r3⟩:=hV;go_simp⟩) ?_
      refine takeC (i:=19) (v:=.int .i64 (q:Int)) rfl (by kernel_rfl) (by kernel_rfl) (by kernel_rfl) (by kernel_rfl) (by kernel_rfl) (fun _ _ _ h=>h) (Or.inl ⟨by kernel_rfl,fun V hV=>by obtain ⟨r0,r1,r2,r3⟩:=hV;go_simp⟩) ?_;refine takeC (i:=20) (v:=.pointer (some ⟨g2,q,none⟩)) rfl (by kernel_rfl) (by kernel_rfl) (by kernel_rfl) (by kernel_rfl) (by kernel_rfl) (fun _ _ _ h=>h) (Or.inl ⟨by kernel_rfl,fun V hV=>by obtain ⟨r0,r1,r2,r3⟩:=hV;go_simp⟩) ?_;refine takeC (i:=21) (v:=.int .i64 (a0:Int)) rfl (by kernel_rfl) (by kernel_rfl) (by kernel_rfl) (by kernel_rfl) (by kernel_rfl) (fun _ _ _ h=>h) (Or.inl ⟨by kernel_rfl,fun V hV=>by obtain ⟨r0,r1,r2,r3⟩:=hV;go_simp⟩) ?_;refine takeC (i:=22) (v:=.slice (some ⟨g2,0,none⟩) V.length cv) rfl (by kernel_rfl) (by kernel_rfl) (by kernel_rfl) (by kernel_rfl) (by kernel_rfl) (fun _ _ _ h=>h) (Or.inl ⟨by kernel_rfl,fun V hV=>by obtain ⟨r0,r1,r2,r3⟩:=hV;go_simp⟩) ?_
      refine takeC (i:=23) (v:=.int .i64 (q:Int)) rfl (by kernel_rfl) (by kernel_rfl) (by kernel_rfl) (by kernel_rfl) (by kernel_rfl) (fun _ _ _ h=>h) (Or.inl ⟨by kernel_rfl,fun V hV=>by obtain ⟨r0,r1,r2,r3⟩:=hV;go_simp⟩) ?_;refine takeC (i:=24) (v:=.int .i64 ((q:Int)+1)) rfl (by kernel_rfl) (by kernel_rfl) (by kernel_rfl) (by kernel_rfl) (by kernel_rfl) (fun _ _ _ h=>h) (Or.inl ⟨by kernel_rfl,fun V hV=>by obtain ⟨r0,r1,r2,r3⟩:=hV;go_simp⟩) ?_;refine takeC (i:=25) (v:=.pointer (some ⟨g2,q+1,none⟩)) rfl (by kernel_rfl) (by kernel_rfl) (by kernel_rfl) (by kernel_rfl) (by kernel_rfl) (fun _ _ _ h=>h) (Or.inl ⟨by kernel_rfl,fun V hV=>by obtain ⟨r0,r1,r2,r3⟩:=hV;go_simp⟩) ?_;refine takeC (i:=26) (v:=.int .i64 (a1:Int)) rfl (by kernel_rfl) (by kernel_rfl) (by kernel_rfl) (by kernel_rfl) (by kernel_rfl) (fun _ _ _ h=>h) (Or.inl ⟨by kernel_rfl,fun V hV=>by obtain ⟨r0,r1,r2,r3⟩:=hV;go_simp⟩) ?_
      refine takeC (i:=27) (v:=.agg #[.int .i64 1,.int .i64 t0,.int .i64 t1,.int .i64 (a0:Int),.int .i64 (a1:Int)]) rfl (by kernel_rfl) (by kernel_rfl) (by kernel_rfl) (by kernel_rfl) (by kernel_rfl) (fun _ _ _ h=>h) (Or.inl ⟨by kernel_rfl,fun V hV=>by obtain ⟨r0,r1,r2,r3⟩:=hV;go_simp⟩) ?_;refine consC (i:=28) (by kernel_rfl) (by kernel_rfl) ⟨n0,n1,z0,z1⟩ rfl (fun K hK=>?_);go_wp2_with fail
      refine consC (i:=29) (by kernel_rfl) (by kernel_rfl) ⟨cell_al10 _ n0,cell_al10 _ n1,cell_al10 _ z0,cell_al10 _ z1⟩ rfl (fun K hK=>?_);refine wpList_append_own_at _ rfl _ _ 25 rfl w1.heap.size 32 i0 (.agg #[.int .i64 0,.int .i64 0,.int .i64 0,.int .i64 0,.int .i64 0]) 5 40 Tryz.underlying25 hi hz0 hz1 hz2 rfl (by decide) u3 _ _ rfl (hrowd.alloc _) ⟨wd.heap.size,0,none⟩ 1 1 [.int .i64 1,.int .i64 t0,.int .i64 t1,.int .i64 (a0:Int),.int .i64 (a1:Int)] rfl rfl ?a1w ?a2w ?a3w ?a4w ?a5w ?_
      case a1w=>intro j u hj;match j,hj with
       | 0,hj=>simp at hj;subst hj;simp [Addr.add]
       | 1,hj=>simp at hj;subst hj;simp [Addr.add]
       | 2,hj=>simp at hj;subst hj;simp [Addr.add]
       | 3,hj=>simp at hj;subst hj;simp [Addr.add]
       | 4,hj=>simp at hj;subst hj;simp [Addr.add]
      case a2w=>intro u hu;simp at hu;rcases hu with rfl | rfl | rfl | rfl | rfl<;>rfl
      case a3w=>unfold maxLen;omega
      case a4w=>omega
      case a5w=>simp;omega
      intro r3 w3 hown3 hg3 _ hat3;have vrow3:=apart_kept (vrowd.alloc (.cells #[.int .i64 1,.int .i64 t0,.int .i64 t1,.int .i64 (a0:Int),.int .i64 (a1:Int)] 32)) hg3 HAP.out;have AP3:=Lib.hid (apart_new vrowd HAP.out (show wd.heap.size≤wd.heap.size+1 by omega) (by simpa using hat3));have B3:Below w1.heap.size w1 w3:=(hbd.alloc hbd.size _).grown hg3 (by simp;omega) (fun j hj=>(hrowd.lt j hj).1);have f0:w3.cell? ⟨g2,q,none⟩=some (.int .i64 (a0:Int)):=by have e:=int_cell vrow3 rfl (show q < V.length by omega);rw [HA0.out] at e;exact e
      have f1:w3.cell? ⟨g2,q+1,none⟩=some (.int .i64 (a1:Int)):=by have e:=int_cell vrow3 rfl hql;rw [HA1.out] at e;exact e
      have f2:w3.cell? ⟨bb,off+a0*4+1,none⟩=some (.int .i64 t0):=by have e:=(HQ.out a0 p0 _ (bel_trans bk B3)).2.1;rw [HT0.out] at e;exact e
      have f3:w3.cell? ⟨bb,off+a1*4+1,none⟩=some (.int .i64 t1):=by have e:=(HQ.out a1 p1 _ (bel_trans bk B3)).2.1;rw [HT1.out] at e;exact e
      go_wp2_with fail
      refine lastC (by kernel_rfl) (by kernel_rfl) ⟨f0,f1,f2,f3⟩ (of_decide_eq_true (by kernel_rfl)) ?_;refine any_seqI [30] [_] _ _ _ rfl (by kernel_rfl) ?_;go_wp2_with fail
      refine ⟨⟨q+1,c'+1,by omega,by omega,by first | go_num | simp,by rw [HE.out,← List.append_assoc,List.length_append,HL2.out];rfl,B3,by rw [HE.out,← List.append_assoc,recE_snoc];exact hown3,vrow3,AP3⟩,by simp [RowKit.intOf];omega⟩
    ·have jq:¬ (q:Int)+1 < (V.length:Int):=by omega
     have HEE:Hid (keyEdges h key=wTo h V q++rTo h key V h.length):=by
      show _=_;rw [keyEdges_is,HV.out,show V.length - 1=q by omega]
     obtain ⟨E1,hE1⟩:∃ E1,eTo h k++wTo h V q=E1:=⟨_,rfl⟩;have HE1:Hid (eTo h k++wTo h V q=E1):=hE1;rw [hE1] at HL2 hrowq;clear hE1;have hc1:c'≤c+n:=by omega
     clear hc';go_wp2_with fail
     refine rall_events h w w1 wo _ a n cap h1 h2 h3 hle HN HC CO i0 hi hz0 hz1 hz2 bk g k KS.length ck hck hlt key hgk ckey V gv cv hcv hVn HVL s0 E1 c' (by omega) HL2 hbq u3 hrowq vrowq HAP _ _ (by intro x9 b8 d9 z9 W9 hh;cases d9<;>first | exact hh | exact Eq.mp (by kernel_rfl) hh) _ _ _ _ _ _ _ _ _ _ _ _ _ _ _ _ _ _ _ _ _ _ _ _ _ _ _ _ _ _ _ _ _ _ _ _ _ _ _ _ _ _ _ _ _ _ _ _ _ _ _ _ _ _ _ _ _ _ _ _ _ _ _ _ _ _ _ _ _ _ _ _ _ _ _ _ _ _ _ _ _ _ _ _ _ _ _ _ _ _ _ _ _ _ _ _ _ _ _ _ _ _ _ _ _ _ _ _ _ _ _ _ _ _ _ _ _ _ _ _ _ _ _ _ _ _ _ _ _ _ _ _ _ _ _ _ _ _ _ _ _ _ _ _ _ _ _ _ _ _ _ _ _ _ _ _ _ _ _ _ _ _ _ _ _ _ _ _ _ _ _ _ _ _ _ _ _ _ _ _ _ _ _ _ _ _ _ _ _ _ _ _ _ _ _ _ _ _ _ _ _ _ _ _ _ _ _ _ _ _ _ _ _ _ _ _ _ (fun r9 c2 wb z9 z10 z11 z81 z82 z83 z84 z85 z86 z87 z88 z89 z90 z91 z92 z93 z94 z95 z96 z97 z98 z99 z100 z101 z102 z103 z104 z105 z106 z107 z108 z109 z110 z111 z112 z113 z114 z115 z116 z117 z118 z119 z120 z121 z122 z123 z124 z125 z126 z127 z128 z129 z130 z131 z132 z133 z134 z135 z136 z137 z138 z139 z140 z141 z142 z143 z144 z145 z146 z147 z148 z149 z150 z151 z152 z153 z154 z155 z156 z157 z158 z159 z160 z161 z162 z163 z164 z165 z166 z167 z168 z169 z170 z171 z172 z173 z174 z175 z176 z177 z178 z179 z180 z181 z182 z183 z184 z185 z186 z187 z188 z189 z190 z191 z192 z193 z194 z195 z196 z197 z198 z199 z200 z201 z202 z203 z204 z205 z206 z207 z208 z209 z210 z211 z212 z213 z214 z215 z216 z217 z218 z219 z220 z221 hc2 HL3 hbb hrowb=>?_)
     have HE:Hid (eTo h (k+1)=E1++rTo h key V n):=by
      show _=_;rw [eTo_next h k (by rw [HKS.out];exact hlt)]
      have ek:(keysL h)[k]'(by rw [HKS.out];exact hlt)=key:=by
       rw [← HKey.out]
       congr 1
      rw [ek,HEE.out,HN.out,← List.append_assoc,HE1.out]
     have hcc:c2≤(k+1)*(3*n):=by rw [Nat.succ_mul];omega
     go_wp2_with fail
     refine ⟨⟨k+1,c2,by omega,hcc,by first | go_num | simp,by rw [HE.out];exact HL3.out,hbb,by rw [HE.out];exact hrowb⟩,by simp [RowKit.intOf];omega⟩
  ·obtain rfl:k=KS.length:=by omega
   have HE:Hid (eTo h KS.length=edgesL h):=by show _=_;rw [← HKS.out];exact eTo_all h
   go_wp2_with fail
   go_ret
   refine ⟨_,rfl,bel_trans bk hbw,?_⟩;rw [← HE.out,HL.out];exact own_low8 hrow s1
end Go.Proofs.YthamoeekiglphaaGreatDoor
