/-
  What cert.Needs answers. What cert.Make answers at the document's example. What the certificate's reader takes: a verdict, a certificate. What cert.Take answers
-/
import Derived.Test.YtkkenfhlgpjmjaaGreatDoorCL2a
import Derived.Test.YtkkenfhlgpjmjaaGreatDoorCP14List
import Derived.Test.YtkkenfhlgpjmjaaGreatDoorCP14Wc
namespace Go.Proofs.YtkkenfhlgpjmjaaGreatDoor
set_option maxRecDepth 100000
open Go.RowKit Go.Maps Go.Sort Go.Shelf
set_option linter.unusedVariables false
attribute [local go_sem] ba_size
theorem sorts14 (m:Nat):Go.Proofs.AnyZI.SortsIn Tryz.prog sortedA14_ren Fence.wide m :=
 ⟨fun blk off cap ss W hH hblk hsz=>callsIn_wide.2 (psortI_any blk off cap ss W hH hblk hsz),fun p cap W=>callsIn_wide.2 (psortI_none p cap W)⟩
theorem pm_some (p:PS) (t:Int):(PM p t).isSome=p t:=by unfold PM;cases p t<;>rfl
set_option maxHeartbeats 1000000 in
theorem prising14 (h:List Ev) (a:Option Addr) (cap mb c:Nat) (v:Vd) (w:World) (hM:VMap w mb c (PM (needP h v))) (hl:h.length≤100000) :
 Calls Tryz.prog 42 #[.agg #[.slice a h.length cap,.map (some mb)]] w fun e w'=>InRow w ((needN h v).map Int.ofNat) e w':=by
 obtain ⟨D0,hown,hd⟩:=hM
 have hnd:((needN h v).map Int.ofNat).Nodup:=by
  rw [List.nodup_iff_pairwise_ne,List.pairwise_map]
  exact (need_sorted h v).imp fun {x y} hab e=>by have:(x:Int)=(y:Int):=e;omega
 have hin:∀ t:Int,t∈(needN h v).map Int.ofNat↔needP h v t=true:=fun t=>by
  rw [needP_iff,List.mem_map]
  constructor
  ·rintro ⟨k,a1,rfl⟩
   obtain ⟨a2,a3⟩:=List.mem_filter.1 a1
   have a4:=List.mem_range.1 a2
   exact ⟨(hasP_iff h _).2 ⟨by show (0:Int)≤(k:Int);omega,by show (k:Int) < _;omega⟩,a3⟩
  ·rintro ⟨a1,a2⟩
   have a3:=(hasP_iff h t).1 a1
   refine ⟨t.toNat,List.mem_filter.2 ⟨List.mem_range.2 (by omega),?_⟩,?_⟩
   ·rw [show ((t.toNat:Nat):Int)=t by omega];exact a2
   ·show ((t.toNat:Nat):Int)=t;omega
 have hsz:Maps.size D0=((needN h v).map Int.ofNat).length:=VMap.size hown hd _ hnd (fun t=>by rw [pm_some];exact hin t)
 have hfew:=need_few h v
 have hperm:∀ ss:List Int,ss.Perm (intKeys D0)→ss.mergeSort Go.leI=(needN h v).map Int.ofNat:=fun ss hp=>by
  have hC:CollectedI D0 (fun _=>false) ((needN h v).map Int.ofNat):=⟨hnd,fun t=>by rw [(hd t).1,pm_some,hin t];simp⟩
  have h1:=hC.perm hown law8i Tryz.underlying3 (fun _=>rfl)
  rw [mergeSort_of_perm_i (hp.trans h1.symm),← need_rising h v _ hnd hin]
  exact (mergeSort_of_perm_i (List.mergeSort_perm _ _)).symm ▸ rfl
 have al:Below w.heap.size w (w.alloc (.cells #[.slice a h.length cap,.map (some mb)] 92)):=(Below.refl _ w).alloc (Nat.le_refl _) _
 have X0:=SBox.new w 92 #[.slice a h.length cap,.map (some mb)]
 have c1:(w.alloc (.cells #[.slice a h.length cap,.map (some mb)] 92)).cell? ⟨w.heap.size,1,none⟩=some (.map (some mb)):=X0.cell 1 _ rfl
 have hown1:=hown.alloc (.cells #[.slice a h.length cap,.map (some mb)] 92)
 generalize hW1:w.alloc (.cells #[.slice a h.length cap,.map (some mb)] 92)=W1 at *
 have hbl:=hown1.lt
 have K:=callsIn_wide.1 (Go.Proofs.AnyZI.keys_in keysA14 Fence.wide 5 trivial rfl (some mb) W1)
 have hseq:SeqGives Fence.wide 2 Tryz.prog 173 #[.pointer (some ⟨W1.heap.size,0,none⟩)] encZ (fun ss=>ss.Perm (intKeys D0)) (Maps.size D0) (W1.alloc (.cells #[.map (some mb)] 90)) :=
  Go.Proofs.AnyZI.keys_gives (ρ:=keysA14_ren) { keysA14 with } Fence.wide _ trivial rfl (by omega) W1.heap.size mb c D0 _ (by simp) (by simp) (hown1.alloc _)
 have S:=callsIn_wide.1 (Go.Proofs.AnyZI.sorted_in sortedA14 Fence.wide 5 trivial trivial trivial trivial rfl (by omega) (sorts14 _) (enters_of Tryz.func172 (by kernel_rfl) rfl) 173 #[.pointer (some ⟨W1.heap.size,0,none⟩)] trivial (enters_of Tryz.func173 (by kernel_rfl) rfl) _ _ (by unfold maxLen;omega) (by omega) _ hseq)
 change Calls Tryz.prog 101 _ W1 _ at K
 change Calls Tryz.prog 100 _ _ _ at S
 have B2:=bel_trans al ((Below.refl W1.heap.size W1).alloc (Nat.le_refl _) (.cells #[.map (some mb)] 90))
 go_enter Tryz.func42,Tryz.ntmps42
 go_wp2_with fail
 refine K.mono ?_
 rintro e w2 ⟨rfl,rfl⟩
 go_wp2_with fail
 refine S.mono ?_
 rintro e w3 ⟨r,ss,rfl,hS,hrow,hnil,hb⟩
 go_wp2_with fail
 go_ret
 have hss:=hperm ss hS
 have hlen:ss.length=((needN h v).map Int.ofNat).length:=by rw [← hss,List.length_mergeSort]
 refine ⟨r,rfl,B2.trans (hb.mono B2.size),?_⟩
 have h9:w3.ownsRow w.heap.size 3 1 r ss.length ((ss.mergeSort Go.leI).map encZ):=owns_base14 hrow B2.size
 rw [hss,hlen] at h9
 have e9:∀ l:List Int,recV intV l=l.map encZ:=fun l=>by
  induction l with
  | nil=>rfl
  | cons x l ih=>rw [show x::l=[x]++l from rfl,recV_append,ih];rfl
 rw [e9]
 exact h9
theorem size_nd14:(Tryz.prog.info? 92).map (·.size)=some 2:=by kernel_rfl
theorem pno14 (a:Option Addr) (n cap:Nat) (w:World):Calls Tryz.prog 39 #[.slice a n cap] w fun e w'=>∃ mb,e=.returned (.agg #[.slice a n cap,.map (some mb)])∧w.heap.size≤mb∧VMap w' mb 0 (PM (fun _=>false))∧Below w.heap.size w w':=by
 have hmm:=@run_makeMap Tryz.prog
 have S0:=SBox.new w 92 #[.slice a n cap,.map (some (w.heap.size+1))]
 have al:Below w.heap.size w (w.alloc (.cells #[.slice a n cap,.map (some (w.heap.size+1))] 92)):=(Below.refl _ w).alloc (Nat.le_refl _) _
 have SP:=S0.alloc (.map #[] 0)
 have MP:=VMap.made (w.alloc (.cells #[.slice a n cap,.map (some (w.heap.size+1))] 92))
 have e0:(fun _=>none:Int→Option Value)=PM (fun _=>false):=rfl
 rw [e0,World.size_alloc] at MP
 have BP:=al.alloc (by simp) (.map #[] 0)
 go_enter Tryz.func39,Tryz.ntmps39
 go_wp2_with fail
 exact bodyPost_ret (v:=.agg #[.slice a n cap,.map (some (w.heap.size+1))]) (results_row1 Tryz.results39 _ _ w.heap.size 92 _ (0,0) _ rfl SP Tryz.underlying92 rfl size_nd14) rfl ⟨w.heap.size+1,rfl,by omega,MP,BP⟩
set_option maxHeartbeats 4000000 in
theorem pneeds14 (h:List Ev) (lv k i j:Int) (ac:Bool) (oa:Option Addr) (oc:Nat) (o:List Int) (ra:Option Addr) (rc:Nat) (r:List Ed) (a:Option Addr) (cap:Nat) (w:World) (hT:IsEvs w (.slice a h.length cap) h) (hR:IsEds w (.slice ra r.length rc) r) (hl:h.length≤100000) (hlr:r.length≤100000) :
 Calls Tryz.prog 16 #[.slice a h.length cap,.agg #[.int .i64 lv,.bool ac,.slice oa o.length oc,.int .i64 k,.int .i64 i,.int .i64 j,.slice ra r.length rc]] w fun e w'=>InRow w ((needN h (lv,ac,o,(k,i,j),r)).map Int.ofNat) e w':=by
 have al:Below w.heap.size w (w.alloc (.cells #[.int .i64 lv,.bool ac,.slice oa o.length oc,.int .i64 k,.int .i64 i,.int .i64 j,.slice ra r.length rc] 28)):=(Below.refl _ w).alloc (Nat.le_refl _) _
 have X0:=SBox.new w 28 #[.int .i64 lv,.bool ac,.slice oa o.length oc,.int .i64 k,.int .i64 i,.int .i64 j,.slice ra r.length rc]
 have PR:=fun (mb c:Nat) (W:World) (hM:VMap W mb c (PM (needP h (lv,ac,o,(k,i,j),r))))=>prising14 h a cap mb c (lv,ac,o,(k,i,j),r) W hM hl
 generalize hNN:(needN h (lv,ac,o,(k,i,j),r)).map Int.ofNat=NN at *
 clear hNN
 have PN:=pno14 a h.length cap (w.alloc (.cells #[.int .i64 lv,.bool ac,.slice oa o.length oc,.int .i64 k,.int .i64 i,.int .i64 j,.slice ra r.length rc] 28))
 have HNP:Hid (needP h (lv,ac,o,(k,i,j),r)=if ac=true then (fun _=>false) else if k≠0 then badP h (fun _=>false) (k,i,j) else r.foldl (edgeP h) (fun _=>false)):=rfl
 obtain ⟨NP,hNP⟩:∃ NP,needP h (lv,ac,o,(k,i,j),r)=NP:=⟨_,rfl⟩
 rw [hNP] at HNP PR
 clear hNP
 have hfin:∀ (W0 W:World) e w',Below w.heap.size w W0→InRow W0 NN e w'→InRow w NN e w':=fun W0 W e w' hb ⟨u,h1,h2,h3⟩=>⟨u,h1,hb.trans (h2.mono hb.size),owns_base14 h3 hb.size⟩
 go_enter Tryz.func16,Tryz.ntmps16
 go_wp2_with fail
 refine PN.mono ?_
 rintro e w1 ⟨mb,rfl,hmb,M1,b1⟩
 have B1:=bel_trans al b1
 have X1:=X0.below b1
 have hm1:w.heap.size < mb:=by simp at hmb;omega
 clear X0 PN b1
 have X2:=X1.alloc (.cells #[.slice a h.length cap,.map (some mb)] 92)
 have N2:=SBox.new w1 92 #[.slice a h.length cap,.map (some mb)]
 have A2:Below w1.heap.size w1 (w1.alloc (.cells #[.slice a h.length cap,.map (some mb)] 92)):=(Below.refl _ w1).alloc (Nat.le_refl _) _
 have M2:=M1.bel A2 M1.lt
 have hml:=M1.lt
 have B2:=bel_trans B1 A2
 generalize hW2:w1.alloc (.cells #[.slice a h.length cap,.map (some mb)] 92)=w2 at *
 have x1:w2.cell? ⟨w.heap.size,1,none⟩=some (.bool ac):=X2.cell 1 _ rfl
 have x3:w2.cell? ⟨w.heap.size,3,none⟩=some (.int .i64 k):=X2.cell 3 _ rfl
 have x4:w2.cell? ⟨w.heap.size,4,none⟩=some (.int .i64 i):=X2.cell 4 _ rfl
 have x5:w2.cell? ⟨w.heap.size,5,none⟩=some (.int .i64 j):=X2.cell 5 _ rfl
 have x6:w2.cell? ⟨w.heap.size,6,none⟩=some (.slice ra r.length rc):=X2.cell 6 _ rfl
 have n0:w2.cell? ⟨w1.heap.size,0,none⟩=some (.slice a h.length cap):=N2.cell 0 _ rfl
 have n1:w2.cell? ⟨w1.heap.size,1,none⟩=some (.map (some mb)):=N2.cell 1 _ rfl
 clear A2
 cases ac with
 | true =>
   have e:NP=fun _=>false:=HNP.out
   rw [← e] at M2
   go_wp2_with fail
   refine (PR mb 0 _ M2).mono ?_
   intro e w3 h3
   obtain ⟨u,rfl,h4⟩:=h3
   go_wp2_with fail
   go_ret
   exact hfin _ w2 _ _ B2 ⟨u,rfl,h4⟩
 | false =>
   by_cases hk:k=0
   ·have hq:(k != 0)=false:=by simp [hk]
    have HE:Hid (NP=r.foldl (edgeP h) (fun _=>false)):=by show _=_;rw [HNP.out,if_neg (by simp),if_neg (fun x=>x hk)]
    clear hk HNP
    obtain ⟨ra',rc',hv,r1,r2,r3,HC⟩:=hR.some_at
    obtain ⟨rfl,rfl⟩:ra=ra'∧rc=rc':=by simpa using hv
    clear hv hR
    obtain ⟨n,hn⟩:∃ n,r.length=n:=⟨_,rfl⟩
    have HN:Hid (r.length=n):=hn
    rw [hn] at r1 r3 hlr x6
    clear hn X2
    have HM0:Hid (VMap w2 mb (6*0) (PM ((r.take 0).foldl (edgeP h) (fun _=>false)))):=by show VMap _ _ _ _;simpa using M2
    have HB0:Hid (Below w.heap.size w w2):=B2
    have HG0:Hid (w2.grownBy w2 (some mb)):=⟨rfl,rfl,rfl,Nat.le_refl _,fun _ _ _=>rfl⟩
    have HB2:Hid (Below w.heap.size w w2):=B2
    have HT0:Hid (IsEvs w (.slice a h.length cap) h):=hT
    have HN2:Hid (SBox w2 w1.heap.size 92 #[.slice a h.length cap,.map (some mb)]):=N2
    clear M1 M2 B1 B2 X1 hT N2 n0 n1
    go_wp2_with fail
    go_loopw [13] (fun q wr=>∃ (k:Nat),k≤n∧q=.int .i64 k∧Hid (VMap wr mb (6*k) (PM ((r.take k).foldl (edgeP h) (fun _=>false))))∧Hid (Below w.heap.size w wr)∧Hid (w2.grownBy wr (some mb))) (fun q _=>n - (RowKit.intOf q).toNat)
    case atStart=>exact ⟨0,Nat.zero_le _,rfl,HM0,HB0,HG0⟩
    case round =>
     obtain ⟨q,hqn,rfl,HMk,HBk,HGk⟩:=hrel
     have HNk:Hid (SBox wr w1.heap.size 92 #[.slice a h.length cap,.map (some mb)]):=HN2.out.kept14 HGk.out (by omega)
     by_cases hlt:q < n
     ·have hk1:q < r.length:=by have:=HN.out;omega
      obtain ⟨bb,off,rfl,hblt,hcell⟩:=HC.out q hk1
      have q0:wr.cell? ⟨bb,off+q*5,none⟩=some (.int .i64 r[q].1):=(HBk.out.cell (p:=⟨bb,off+q*5,none⟩) hblt).trans (hcell 0 _ rfl)
      have q1:wr.cell? ⟨bb,off+q*5+1,none⟩=some (.int .i64 r[q].2.1):=(HBk.out.cell (p:=⟨bb,off+q*5+1,none⟩) hblt).trans (hcell 1 _ rfl)
      have q2:wr.cell? ⟨bb,off+q*5+2,none⟩=some (.int .i64 r[q].2.2.1):=(HBk.out.cell (p:=⟨bb,off+q*5+2,none⟩) hblt).trans (hcell 2 _ rfl)
      have q3:wr.cell? ⟨bb,off+q*5+3,none⟩=some (.int .i64 r[q].2.2.2.1):=(HBk.out.cell (p:=⟨bb,off+q*5+3,none⟩) hblt).trans (hcell 3 _ rfl)
      have q4:wr.cell? ⟨bb,off+q*5+4,none⟩=some (.int .i64 r[q].2.2.2.2):=(HBk.out.cell (p:=⟨bb,off+q*5+4,none⟩) hblt).trans (hcell 4 _ rfl)
      have HX:Hid ((r.take (q+1)).foldl (edgeP h) (fun _=>false)=edgeP h ((r.take q).foldl (edgeP h) (fun _=>false)) r[q]):=by show _=_;rw [List.take_succ_eq_append_getElem hk1,List.foldl_append];rfl
      generalize r[q]=y at q0 q1 q2 q3 q4 HX
      obtain ⟨a0,a1,a2,a3,a4⟩:=y
      simp only at q0 q1 q2 q3 q4
      generalize (r.take q).foldl (edgeP h) (fun _=>false)=P0 at HMk HX
      have al2:Below wr.heap.size wr (wr.alloc (.cells #[.int .i64 a0,.int .i64 a1,.int .i64 a2,.int .i64 a3,.int .i64 a4] 71)):=(Below.refl _ wr).alloc (Nat.le_refl _) _
      have HM2:Hid (VMap (wr.alloc (.cells #[.int .i64 a0,.int .i64 a1,.int .i64 a2,.int .i64 a3,.int .i64 a4] 71)) mb (6*q) (PM P0)):=HMk.out.bel al2 HMk.out.lt
      have HB3:Hid (Below w.heap.size w (wr.alloc (.cells #[.int .i64 a0,.int .i64 a1,.int .i64 a2,.int .i64 a3,.int .i64 a4] 71))):=bel_trans HBk.out al2
      have HG3:Hid (w2.grownBy (wr.alloc (.cells #[.int .i64 a0,.int .i64 a1,.int .i64 a2,.int .i64 a3,.int .i64 a4] 71)) (some mb)):=HGk.out.trans (grown_below8 (some mb) al2)
      have y0:(wr.alloc (.cells #[.int .i64 a0,.int .i64 a1,.int .i64 a2,.int .i64 a3,.int .i64 a4] 71)).cell? ⟨w1.heap.size,0,none⟩=some (.slice a h.length cap):=(HNk.out.alloc _).cell 0 _ rfl
      have y1:(wr.alloc (.cells #[.int .i64 a0,.int .i64 a1,.int .i64 a2,.int .i64 a3,.int .i64 a4] 71)).cell? ⟨w1.heap.size,1,none⟩=some (.map (some mb)):=(HNk.out.alloc _).cell 1 _ rfl
      have HD:Hid (Calls Tryz.prog 41 #[.agg #[.slice a h.length cap,.map (some mb)],.agg #[.int .i64 a0,.int .i64 a1,.int .i64 a2,.int .i64 a3,.int .i64 a4]] (wr.alloc (.cells #[.int .i64 a0,.int .i64 a1,.int .i64 a2,.int .i64 a3,.int .i64 a4] 71)) fun e w'=>NRes (wr.alloc (.cells #[.int .i64 a0,.int .i64 a1,.int .i64 a2,.int .i64 a3,.int .i64 a4] 71)) mb (6*q+6) (edgeP h P0 (a0,a1,a2,a3,a4)) e w'):=by
       by_cases h3:a0=3
       ·exact pedge14_w h a cap mb (6*q) P0 a0 a1 a2 a3 a4 w _ HT0.out HB3.out (by omega) HM2.out (by omega) hl h3
       ·exact pedge14_n h a cap mb (6*q) P0 a0 a1 a2 a3 a4 w _ HT0.out HB3.out (by omega) HM2.out (by omega) hl h3
      clear hcell al2 HMk HGk HBk HM2
      go_wp2_with fail
      refine HD.out.mono ?_
      intro e w5 H5
      have HB5:Hid (Below w.heap.size w w5):=H5.bel HB3.out (by omega)
      obtain ⟨rfl,M5,g5⟩:=H5
      have HM5:Hid (VMap w5 mb (6*(q+1)) (PM ((r.take (q+1)).foldl (edgeP h) (fun _=>false)))):=by show VMap _ _ _ _;rw [HX.out];exact M5
      have HG5:Hid (w2.grownBy w5 (some mb)):=HG3.out.trans g5
      clear M5 g5 y0 y1
      go_wp2_with fail
      go_roundw
      case rel=>exact ⟨q+1,by omega,by first | go_num | simp,HM5,HB5,HG5⟩
      case measure=>simp [RowKit.intOf];omega
     ·obtain rfl:q=n:=by omega
      have HMz:Hid (VMap wr mb (6*q) (PM NP)):=by have:=HMk.out;rw [List.take_of_length_le (by have:=HN.out;omega),← HE.out] at this;exact this
      have y0:wr.cell? ⟨w1.heap.size,0,none⟩=some (.slice a h.length cap):=HNk.out.cell 0 _ rfl
      have y1:wr.cell? ⟨w1.heap.size,1,none⟩=some (.map (some mb)):=HNk.out.cell 1 _ rfl
      clear HMk
      go_wp2_with fail
      refine (PR mb _ _ HMz.out).mono ?_
      intro e w3 h3
      obtain ⟨u,rfl,h4⟩:=h3
      go_wp2_with fail
      go_ret
      exact hfin _ w2 _ _ HBk.out ⟨u,rfl,h4⟩
   ·have hq:(k != 0)=true:=by simp [hk]
    have HE:Hid (NP=badP h (fun _=>false) (k,i,j)):=by show _=_;rw [HNP.out,if_neg (by simp),if_pos hk]
    clear hk HNP
    go_wp2_with fail
    refine (pbad14 h a cap mb 0 (fun _=>false) k i j w w2 hT B2 (by omega) M2 (by omega) hl).mono ?_
    intro e w3 H3
    have B3:=H3.bel B2 (by omega)
    obtain ⟨rfl,M3,g3⟩:=H3
    rw [← HE.out] at M3
    have N3:=N2.kept14 g3 (by omega)
    have y0:w3.cell? ⟨w1.heap.size,0,none⟩=some (.slice a h.length cap):=N3.cell 0 _ rfl
    have y1:w3.cell? ⟨w1.heap.size,1,none⟩=some (.map (some mb)):=N3.cell 1 _ rfl
    clear n0 n1 x1 x3 x4 x5 x6 g3
    go_wp2_with fail
    refine (PR mb _ _ M3).mono ?_
    intro e w4 h3
    obtain ⟨u,rfl,h4⟩:=h3
    go_wp2_with fail
    go_ret
    exact hfin _ w2 _ _ B3 ⟨u,rfl,h4⟩
end Go.Proofs.YtkkenfhlgpjmjaaGreatDoor
namespace Go.Proofs.YtkkenfhlgpjmjaaGreatDoor
set_option maxRecDepth 100000
open Go.RowKit
set_option linter.unusedVariables false
attribute [local go_sem] ba_size
theorem root_len14 (ss:List (List UInt8)):(rootL sumL ss).length=32:=by
 have:∃ x,rootL sumL ss=sumL x:=⟨_,rfl⟩
 obtain ⟨x,hx⟩:=this
 rw [hx]
 exact sumL_len32 x
theorem leaves_few14 (h:List Ev) (hl:h.length≤256):(leavesE h).1.length≤256∧∀ t∈(leavesE h).1,t.length≤1125899906842624:=by
 unfold leavesE
 rw [if_neg (by omega)]
 by_cases ha:allMay h
 ·rw [if_pos ha]
  refine ⟨by simpa using hl,fun t ht=>?_⟩
  obtain ⟨x,hx,rfl⟩:=List.mem_map.1 ht
  have:=(bytE_len x (ha x hx)).1
  omega
 ·rw [if_neg ha]
  exact ⟨by simp,fun t ht=>by simp at ht⟩
theorem sh_tags14:∃ L:List Ev,allP [115] sh14=(L,0)∧L.length=3 :=
 ⟨tagsL (keyL [115]) sh14,allP_ok _ _ (by decide) (by decide) (.inl (by decide)),rfl⟩
theorem may_sh14 (rt:List UInt8) (h:rt.length=32):mayC ([116],1,[],rt,3,(1,true,[1],(0,0,0),[]),[]):=by
 refine ⟨⟨?_,?_,.inl rfl,h,?_,?_⟩,⟨⟨?_,?_,?_,?_,?_⟩,?_,?_⟩,?_,?_⟩<;>simp [plM,txM]
set_option maxHeartbeats 4000000 in
theorem pmake14 (w:World) (vh:Value) (hG:G w) (hT:IsEvs w vh sh14):Calls Tryz.prog 12 #[.string ⟨#[116]⟩,.int .i64 1,.string ⟨#[]⟩,.string ⟨#[115]⟩,vh,.int .i64 1] w fun e w'=>MkRes w e w':=by
 have hg3:=hG.size
 have HT0:Hid (IsEvs w vh sh14):=hT
 have HG0:Hid (G w):=hG
 obtain ⟨a,cap,rfl,h1,h2,h3,HC⟩:=hT.some_at
 have hl3:sh14.length=3:=rfl
 rw [hl3] at h1 h3 HT0 ⊢
 obtain ⟨TL,hTL,hTL3⟩:=sh_tags14
 clear HC hT hG
 have B0:=(Below.refl w.heap.size w).alloc (Nat.le_refl _) (.cells #[.string ⟨#[]⟩,.int .i64 0,.string ⟨#[]⟩,.string ⟨#[]⟩,.int .i64 0,.int .i64 0,.bool false,.slice none 0 0,.int .i64 0,.int .i64 0,.int .i64 0,.slice none 0 0,.slice none 0 0] 35)
 have X0:=SBox.new w 35 #[.string ⟨#[]⟩,.int .i64 0,.string ⟨#[]⟩,.string ⟨#[]⟩,.int .i64 0,.int .i64 0,.bool false,.slice none 0 0,.int .i64 0,.int .i64 0,.int .i64 0,.slice none 0 0,.slice none 0 0]
 have D1:=judge14_sh (.slice a 3 cap) (w.alloc (.cells #[.string ⟨#[]⟩,.int .i64 0,.string ⟨#[]⟩,.string ⟨#[]⟩,.int .i64 0,.int .i64 0,.bool false,.slice none 0 0,.int .i64 0,.int .i64 0,.int .i64 0,.slice none 0 0,.slice none 0 0] 35)) (HT0.out.below B0)
 go_enter Tryz.func12,Tryz.ntmps12
 go_wp2_with fail
 refine D1.mono ?_
 rintro e w1 ⟨oa,oc,rfl,b1,o1⟩
 have X1:=X0.below b1
 have B1:=bel_trans B0 b1
 have o1':w1.ownsRow (w.heap.size+1) 3 1 (.slice oa 1 oc) 1 [.int .i64 1]:=owns_base14 o1 (by simp)
 simp only [if_true]
 clear D1 X0 B0 b1 o1
 have Y2:=SBox.new w1 28 #[.int .i64 1,.bool true,.slice oa 1 oc,.int .i64 0,.int .i64 0,.int .i64 0,.slice none 0 0]
 have A2:Below w1.heap.size w1 (w1.alloc (.cells #[.int .i64 1,.bool true,.slice oa 1 oc,.int .i64 0,.int .i64 0,.int .i64 0,.slice none 0 0] 28)):=(Below.refl _ w1).alloc (Nat.le_refl _) _
 have X2:=X1.below A2
 have B2:=bel_trans B1 A2
 have o2:=owns_below o1' A2
 have s21:w.heap.size < w1.heap.size:=X1.lt
 have D2:=pall7_any [115] sh14 (.slice a 3 cap) (w1.alloc (.cells #[.int .i64 1,.bool true,.slice oa 1 oc,.int .i64 0,.int .i64 0,.int .i64 0,.slice none 0 0] 28)) (HG0.out.below B2 hg3) (HT0.out.below B2)
 rw [hTL] at D2
 go_wp2_with fail
 refine D2.mono ?_
 rintro e w3 ⟨v3,rfl,b3,r3⟩
 obtain ⟨ta,tc,rfl⟩:=owns_slice14 r3
 have T3:IsEvs w3 (.slice ta TL.length tc) TL:=IsRec.own evV_len (by omega) r3 (by simp only;omega)
 have X3:=X2.below b3
 have Y3:=Y2.below b3
 have B3:=bel_trans B2 b3
 have o3:=owns_below o2 b3
 have D3:=pleaves_any TL (.slice ta TL.length tc) w3 T3
 have lf:=leaves_few14 TL (by omega)
 rw [hTL3] at D3
 clear D2 X2 Y2 b3 o2 r3
 generalize leavesE TL=LE at D3 lf
 obtain ⟨LL,le⟩:=LE
 simp only at D3 lf
 go_wp2_with fail
 refine D3.mono ?_
 rintro e w4 ⟨v4,rfl,b4,r4⟩
 obtain ⟨la,lc,rfl⟩:=owns_slice14 r4
 have T4:IsTxt w4 (.slice la LL.length lc) LL:=IsTxt.own r4 (by simp only;omega) lf.2
 have X4:=X3.below b4
 have Y4:=Y3.below b4
 have B4:=bel_trans B3 b4
 have o4:=owns_below o3 b4
 have D4:=proot_any LL (.slice la LL.length lc) w4 (HG0.out.below B4 hg3) T4 (by omega)
 have hrl:=root_len14 LL
 clear D3 X3 Y3 b4 o3 r4
 generalize rootL sumL LL=rt at D4 hrl
 go_wp2_with fail
 refine D4.mono ?_
 rintro e w5 ⟨rfl,b5⟩
 have X5:=X4.below b5
 have Y5:=Y4.below b5
 have B5:=bel_trans B4 b5
 have o5:=owns_below o4 b5
 clear D4 X4 Y4 b5 o4 T4 T3
 have y0:w5.cell? ⟨w1.heap.size,0,none⟩=some (.int .i64 1):=Y5.cell 0 _ rfl
 have y1:w5.cell? ⟨w1.heap.size,1,none⟩=some (.bool true):=Y5.cell 1 _ rfl
 have y2:w5.cell? ⟨w1.heap.size,2,none⟩=some (.slice oa 1 oc):=Y5.cell 2 _ rfl
 have y3:w5.cell? ⟨w1.heap.size,3,none⟩=some (.int .i64 0):=Y5.cell 3 _ rfl
 have y4:w5.cell? ⟨w1.heap.size,4,none⟩=some (.int .i64 0):=Y5.cell 4 _ rfl
 have y5:w5.cell? ⟨w1.heap.size,5,none⟩=some (.int .i64 0):=Y5.cell 5 _ rfl
 have y6:w5.cell? ⟨w1.heap.size,6,none⟩=some (.slice none 0 0):=Y5.cell 6 _ rfl
 have A6:Below w5.heap.size w5 (w5.alloc (.cells #[.string ⟨#[116]⟩,.int .i64 1,.string ⟨#[]⟩,.string ⟨rt.toArray⟩,.int .i64 3,.int .i64 1,.bool true,.slice oa 1 oc,.int .i64 0,.int .i64 0,.int .i64 0,.slice none 0 0,.slice none 0 0] 35)):=(Below.refl _ w5).alloc (Nat.le_refl _) _
 have X6:=X5.below A6
 have Y6:=Y5.below A6
 have Z6:=SBox.new w5 35 #[.string ⟨#[116]⟩,.int .i64 1,.string ⟨#[]⟩,.string ⟨rt.toArray⟩,.int .i64 3,.int .i64 1,.bool true,.slice oa 1 oc,.int .i64 0,.int .i64 0,.int .i64 0,.slice none 0 0,.slice none 0 0]
 have B6:=bel_trans B5 A6
 have o6:=owns_below o5 A6
 have z0:(w5.alloc (.cells #[.string ⟨#[116]⟩,.int .i64 1,.string ⟨#[]⟩,.string ⟨rt.toArray⟩,.int .i64 3,.int .i64 1,.bool true,.slice oa 1 oc,.int .i64 0,.int .i64 0,.int .i64 0,.slice none 0 0,.slice none 0 0] 35)).cell? ⟨w1.heap.size,0,none⟩=some (.int .i64 1):=Y6.cell 0 _ rfl
 have z1:(w5.alloc (.cells #[.string ⟨#[116]⟩,.int .i64 1,.string ⟨#[]⟩,.string ⟨rt.toArray⟩,.int .i64 3,.int .i64 1,.bool true,.slice oa 1 oc,.int .i64 0,.int .i64 0,.int .i64 0,.slice none 0 0,.slice none 0 0] 35)).cell? ⟨w1.heap.size,1,none⟩=some (.bool true):=Y6.cell 1 _ rfl
 have z2:(w5.alloc (.cells #[.string ⟨#[116]⟩,.int .i64 1,.string ⟨#[]⟩,.string ⟨rt.toArray⟩,.int .i64 3,.int .i64 1,.bool true,.slice oa 1 oc,.int .i64 0,.int .i64 0,.int .i64 0,.slice none 0 0,.slice none 0 0] 35)).cell? ⟨w1.heap.size,2,none⟩=some (.slice oa 1 oc):=Y6.cell 2 _ rfl
 have z3:(w5.alloc (.cells #[.string ⟨#[116]⟩,.int .i64 1,.string ⟨#[]⟩,.string ⟨rt.toArray⟩,.int .i64 3,.int .i64 1,.bool true,.slice oa 1 oc,.int .i64 0,.int .i64 0,.int .i64 0,.slice none 0 0,.slice none 0 0] 35)).cell? ⟨w1.heap.size,3,none⟩=some (.int .i64 0):=Y6.cell 3 _ rfl
 have z4:(w5.alloc (.cells #[.string ⟨#[116]⟩,.int .i64 1,.string ⟨#[]⟩,.string ⟨rt.toArray⟩,.int .i64 3,.int .i64 1,.bool true,.slice oa 1 oc,.int .i64 0,.int .i64 0,.int .i64 0,.slice none 0 0,.slice none 0 0] 35)).cell? ⟨w1.heap.size,4,none⟩=some (.int .i64 0):=Y6.cell 4 _ rfl
 have z5:(w5.alloc (.cells #[.string ⟨#[116]⟩,.int .i64 1,.string ⟨#[]⟩,.string ⟨rt.toArray⟩,.int .i64 3,.int .i64 1,.bool true,.slice oa 1 oc,.int .i64 0,.int .i64 0,.int .i64 0,.slice none 0 0,.slice none 0 0] 35)).cell? ⟨w1.heap.size,5,none⟩=some (.int .i64 0):=Y6.cell 5 _ rfl
 have z6:(w5.alloc (.cells #[.string ⟨#[116]⟩,.int .i64 1,.string ⟨#[]⟩,.string ⟨rt.toArray⟩,.int .i64 3,.int .i64 1,.bool true,.slice oa 1 oc,.int .i64 0,.int .i64 0,.int .i64 0,.slice none 0 0,.slice none 0 0] 35)).cell? ⟨w1.heap.size,6,none⟩=some (.slice none 0 0):=Y6.cell 6 _ rfl
 have D6:=pneeds14 sh14 1 0 0 0 true oa oc [1] none 0 [] a cap (w5.alloc (.cells #[.string ⟨#[116]⟩,.int .i64 1,.string ⟨#[]⟩,.string ⟨rt.toArray⟩,.int .i64 3,.int .i64 1,.bool true,.slice oa 1 oc,.int .i64 0,.int .i64 0,.int .i64 0,.slice none 0 0,.slice none 0 0] 35)) (HT0.out.below B6) (IsRec.nil _ _ _) (by decide) (by simp)
 rw [need_yes sh14 _ rfl] at D6
 rw [hl3] at D6
 clear A6 X5 Y5
 go_wp2_with fail
 refine D6.mono ?_
 rintro e w7 ⟨u7,rfl,b7,r7⟩
 obtain ⟨na,nc,rfl⟩:=owns_slice14 r7
 have X7:=X6.below b7
 have Z7:=Z6.below b7
 have B7:=bel_trans B6 b7
 have o7:=owns_below o6 b7
 simp only [List.map_nil,List.length_nil]
 clear D6 X6 Z6 Y6 b7 o6 r7 y0 y1 y2 y3 y4 y5 y6 z0 z1 z2 z3 z4 z5 z6
 have k0:w7.cell? ⟨w5.heap.size,0,none⟩=some (.string ⟨#[116]⟩):=Z7.cell 0 _ rfl
 have k1:w7.cell? ⟨w5.heap.size,1,none⟩=some (.int .i64 1):=Z7.cell 1 _ rfl
 have k2:w7.cell? ⟨w5.heap.size,2,none⟩=some (.string ⟨#[]⟩):=Z7.cell 2 _ rfl
 have k3:w7.cell? ⟨w5.heap.size,3,none⟩=some (.string ⟨rt.toArray⟩):=Z7.cell 3 _ rfl
 have k4:w7.cell? ⟨w5.heap.size,4,none⟩=some (.int .i64 3):=Z7.cell 4 _ rfl
 have k5:w7.cell? ⟨w5.heap.size,5,none⟩=some (.int .i64 1):=Z7.cell 5 _ rfl
 have k6:w7.cell? ⟨w5.heap.size,6,none⟩=some (.bool true):=Z7.cell 6 _ rfl
 have k7:w7.cell? ⟨w5.heap.size,7,none⟩=some (.slice oa 1 oc):=Z7.cell 7 _ rfl
 have k8:w7.cell? ⟨w5.heap.size,8,none⟩=some (.int .i64 0):=Z7.cell 8 _ rfl
 have k9:w7.cell? ⟨w5.heap.size,9,none⟩=some (.int .i64 0):=Z7.cell 9 _ rfl
 have k10:w7.cell? ⟨w5.heap.size,10,none⟩=some (.int .i64 0):=Z7.cell 10 _ rfl
 have k11:w7.cell? ⟨w5.heap.size,11,none⟩=some (.slice none 0 0):=Z7.cell 11 _ rfl
 have k12:w7.cell? ⟨w5.heap.size,12,none⟩=some (.slice none 0 0):=Z7.cell 12 _ rfl
 have s75:w5.heap.size < w7.heap.size:=Z7.lt
 have hmay:=may_sh14 rt hrl
 have hO:IsInts w7 (.slice oa 1 oc) [1]:=IsRec.own intV_len (by omega) o7 (by omega)
 have D7:=pmayc14 [116] 1 [] rt 3 1 0 0 0 true oa oc [1] none 0 [] none 0 [] w7 hO (IsRec.nil _ _ _) (IsPfs.nil _)
 rw [decide_eq_true hmay] at D7
 have HMAY:Hid (mayC ([116],1,[],rt,3,(1,true,[1],(0,0,0),[]),[])):=hmay
 clear hmay
 go_wp2_with fail
 go_loopw [68] (fun i wr=>i=.int .i64 0∧wr=w7) (fun i _=>0)
 case atStart=>exact ⟨rfl,rfl⟩
 case round =>
  obtain ⟨rfl,rfl⟩:=hrel
  go_wp2_with fail
  refine D7.mono ?_
  rintro e w8 ⟨rfl,b8⟩
  have X8:=X7.below b8
  have Z8:=Z7.below b8
  have B8:=bel_trans B7 b8
  have o8:=owns_below o7 b8
  clear X7 Z7 o7 b8
  have m0:w8.cell? ⟨w5.heap.size,0,none⟩=some (.string ⟨#[116]⟩):=Z8.cell 0 _ rfl
  have m1:w8.cell? ⟨w5.heap.size,1,none⟩=some (.int .i64 1):=Z8.cell 1 _ rfl
  have m2:w8.cell? ⟨w5.heap.size,2,none⟩=some (.string ⟨#[]⟩):=Z8.cell 2 _ rfl
  have m3:w8.cell? ⟨w5.heap.size,3,none⟩=some (.string ⟨rt.toArray⟩):=Z8.cell 3 _ rfl
  have m4:w8.cell? ⟨w5.heap.size,4,none⟩=some (.int .i64 3):=Z8.cell 4 _ rfl
  have m5:w8.cell? ⟨w5.heap.size,5,none⟩=some (.int .i64 1):=Z8.cell 5 _ rfl
  have m6:w8.cell? ⟨w5.heap.size,6,none⟩=some (.bool true):=Z8.cell 6 _ rfl
  have m7:w8.cell? ⟨w5.heap.size,7,none⟩=some (.slice oa 1 oc):=Z8.cell 7 _ rfl
  have m8:w8.cell? ⟨w5.heap.size,8,none⟩=some (.int .i64 0):=Z8.cell 8 _ rfl
  have m9:w8.cell? ⟨w5.heap.size,9,none⟩=some (.int .i64 0):=Z8.cell 9 _ rfl
  have m10:w8.cell? ⟨w5.heap.size,10,none⟩=some (.int .i64 0):=Z8.cell 10 _ rfl
  have m11:w8.cell? ⟨w5.heap.size,11,none⟩=some (.slice none 0 0):=Z8.cell 11 _ rfl
  have m12:w8.cell? ⟨w5.heap.size,12,none⟩=some (.slice none 0 0):=Z8.cell 12 _ rfl
  have x0:w8.cell? ⟨w.heap.size,0,none⟩=some (.string ⟨#[]⟩):=X8.cell 0 _ rfl
  have f0:=X8.frozen 0
  have x1:w8.cell? ⟨w.heap.size,1,none⟩=some (.int .i64 0):=X8.cell 1 _ rfl
  have f1:=X8.frozen 1
  have x2:w8.cell? ⟨w.heap.size,2,none⟩=some (.string ⟨#[]⟩):=X8.cell 2 _ rfl
  have f2:=X8.frozen 2
  have x3:w8.cell? ⟨w.heap.size,3,none⟩=some (.string ⟨#[]⟩):=X8.cell 3 _ rfl
  have f3:=X8.frozen 3
  have x4:w8.cell? ⟨w.heap.size,4,none⟩=some (.int .i64 0):=X8.cell 4 _ rfl
  have f4:=X8.frozen 4
  have x5:w8.cell? ⟨w.heap.size,5,none⟩=some (.int .i64 0):=X8.cell 5 _ rfl
  have f5:=X8.frozen 5
  have x6:w8.cell? ⟨w.heap.size,6,none⟩=some (.bool false):=X8.cell 6 _ rfl
  have f6:=X8.frozen 6
  have x7:w8.cell? ⟨w.heap.size,7,none⟩=some (.slice none 0 0):=X8.cell 7 _ rfl
  have f7:=X8.frozen 7
  have x8:w8.cell? ⟨w.heap.size,8,none⟩=some (.int .i64 0):=X8.cell 8 _ rfl
  have f8:=X8.frozen 8
  have x9:w8.cell? ⟨w.heap.size,9,none⟩=some (.int .i64 0):=X8.cell 9 _ rfl
  have f9:=X8.frozen 9
  have x10:w8.cell? ⟨w.heap.size,10,none⟩=some (.int .i64 0):=X8.cell 10 _ rfl
  have f10:=X8.frozen 10
  have x11:w8.cell? ⟨w.heap.size,11,none⟩=some (.slice none 0 0):=X8.cell 11 _ rfl
  have f11:=X8.frozen 11
  have x12:w8.cell? ⟨w.heap.size,12,none⟩=some (.slice none 0 0):=X8.cell 12 _ rfl
  have f12:=X8.frozen 12
  have SP:=SBox.putL [.string ⟨#[116]⟩,.int .i64 1,.string ⟨#[]⟩,.string ⟨rt.toArray⟩,.int .i64 3,.int .i64 1,.bool true,.slice oa 1 oc,.int .i64 0,.int .i64 0,.int .i64 0,.slice none 0 0,.slice none 0 0] [] [.string ⟨#[]⟩,.int .i64 0,.string ⟨#[]⟩,.string ⟨#[]⟩,.int .i64 0,.int .i64 0,.bool false,.slice none 0 0,.int .i64 0,.int .i64 0,.int .i64 0,.slice none 0 0,.slice none 0 0] w8 rfl X8
  have K:=kept_putL (B:=w.heap.size) [.string ⟨#[116]⟩,.int .i64 1,.string ⟨#[]⟩,.string ⟨rt.toArray⟩,.int .i64 3,.int .i64 1,.bool true,.slice oa 1 oc,.int .i64 0,.int .i64 0,.int .i64 0,.slice none 0 0,.slice none 0 0] 0 w8
  have BP:=B8.grown K B8.size (fun q h9=>by cases h9;exact Nat.le_refl _)
  have oP:=owns_later14 o8 K (by omega)
  go_wp2_with fail
  exact bodyPost_ret (v:=.tuple #[.agg #[.string ⟨#[116]⟩,.int .i64 1,.string ⟨#[]⟩,.string ⟨rt.toArray⟩,.int .i64 3,.int .i64 1,.bool true,.slice oa 1 oc,.int .i64 0,.int .i64 0,.int .i64 0,.slice none 0 0,.slice none 0 0],.int .i64 0]) (results_row_tmp Tryz.results12 _ _ w.heap.size 35 _ (0,0) _ rfl SP Tryz.underlying35 rfl size_ct) rfl ⟨([116],1,[],rt,3,(1,true,[1],(0,0,0),[]),[]),.slice oa 1 oc,.slice none 0 0,.slice none 0 0,rfl,BP,⟨IsRec.own intV_len (by omega) oP (by decide),IsRec.nil _ _ _,IsPfs.nil _⟩,rfl,rfl,rfl,hrl⟩
def VdV (B:Nat) (W:World) (x:Codec.VdP) (v:Value):Prop:=∃ oa oc ra rc,v=.agg #[.int .i64 x.1,.bool (decide (x.2.1=1)),.slice oa x.2.2.1.length oc,.int .i64 x.2.2.2.1.1,.int .i64 x.2.2.2.1.2.1,.int .i64 x.2.2.2.1.2.2,.slice ra x.2.2.2.2.length rc] ∧
 W.ownsRow B 3 1 (.slice oa x.2.2.1.length oc) x.2.2.1.length (recV intV x.2.2.1)∧W.ownsRow B 71 5 (.slice ra x.2.2.2.2.length rc) x.2.2.2.2.length (recV edV x.2.2.2.2)∧x.2.2.1.length≤32∧x.2.2.2.2.length≤128
set_option maxHeartbeats 4000000 in
theorem pverdict14 (R:List UInt8) (hR:R.length≤9223372036854770000) (pb:Nat) (w:World) (hb:RB w pb R) :
 Calls Tryz.prog 112 #[.pointer (some ⟨pb,0,none⟩)] w fun e w'=>Rd w pb (Codec.vdP.dec R) (fun W x v=>VdV (w.heap.size+1) W x v) e w':=by
 have S0:=SBox.new w 28 #[.int .i64 0,.bool false,.slice none 0 0,.int .i64 0,.int .i64 0,.int .i64 0,.slice none 0 0]
 have g0:w.grownBy (w.alloc (.cells #[.int .i64 0,.bool false,.slice none 0 0,.int .i64 0,.int .i64 0,.int .i64 0,.slice none 0 0] 28)) (some pb):=World.grownBy_alloc _ _ _
 have b0:=hb.alloc (.cells #[.int .i64 0,.bool false,.slice none 0 0,.int .i64 0,.int .i64 0,.int .i64 0,.slice none 0 0] 28)
 have hlt:=hb.lt
 have hne:w.heap.size≠pb:=by omega
 have hmf:∀ (fn:Fn) (first cap:Array Value) (w:World),(Instr.makeFunc fn first cap).run Tryz.prog w=.ok (.func fn first cap) w:=fun _ _ _ _=>rfl
 go_enter Tryz.func112,Tryz.ntmps112
 go_wp2_with fail
 refine (pnum14 2 (by omega) R (by omega) pb _ b0).mono ?_
 intro e w1 h1
 cases d1:(Codec.num 2).dec R with
 | none=>obtain ⟨g1,rfl⟩:=h1.is_no d1;exact ⟨rfl,Rd.no (pair_no1 d1) (g0.trans g1)⟩
 | some x =>
 obtain ⟨x0,r1⟩:=x
 obtain ⟨g1,v,rfl,⟨rfl,_,_⟩,b1⟩:=h1.is_yes d1
 have S1:=S0.kept14 g1 hne
 have G1:=g0.trans g1
 have R1:=Nat.le_trans (dec_less _ d1) hR
 have z1:=S1.lt
 clear h1 S0 g0 b0 g1
 go_wp2_with fail
 refine (pnum14 1 (by omega) r1 (by omega) pb _ b1).mono ?_
 intro e w2 h2
 cases d2:(Codec.num 1).dec r1 with
 | none=>obtain ⟨g2,rfl⟩:=h2.is_no d2;exact ⟨rfl,Rd.no (pair_no2 d1 (pair_no1 d2)) (G1.trans g2)⟩
 | some x =>
 obtain ⟨x1,r2⟩:=x
 obtain ⟨g2,v,rfl,⟨rfl,_,_⟩,b2⟩:=h2.is_yes d2
 have S2:=S1.kept14 g2 hne
 have G2:=G1.trans g2
 have R2:=Nat.le_trans (dec_less _ d2) R1
 have z2:=S2.lt
 clear h2 S1 G1 b1 g2
 go_wp2_with fail
 refine (plistI14 32 (by omega) r2 (by omega) pb _ b2).mono ?_
 intro e w3 h3
 cases d3:(Codec.many Codec.txP 32).dec r2 with
 | none=>obtain ⟨g3,rfl⟩:=h3.is_no d3;exact ⟨rfl,Rd.no (pair_no2 d1 (pair_no2 d2 (pair_no1 d3))) (G2.trans g3)⟩
 | some x =>
 obtain ⟨xo,r3⟩:=x
 obtain ⟨g3,v,rfl,⟨hO,lO⟩,b3⟩:=h3.is_yes d3
 have S3:=S2.kept14 g3 hne
 have G3:=G2.trans g3
 have R3:=Nat.le_trans (dec_less _ d3) R2
 have z3:=S3.lt
 obtain ⟨oa,oc,rfl⟩:=owns_slice14 hO
 have hO:=owns_base14 (C:=w.heap.size+1) hO (by omega)
 clear h3 S2 G2 b2 g3
 go_wp2_with fail
 refine (pnum14 4 (by omega) r3 (by omega) pb _ b3).mono ?_
 intro e w4 h4
 cases d4:(Codec.num 4).dec r3 with
 | none=>obtain ⟨g4,rfl⟩:=h4.is_no d4;exact ⟨rfl,Rd.no (pair_no2 d1 (pair_no2 d2 (pair_no2 d3 (pair_no1 (pair_no1 d4))))) (G3.trans g4)⟩
 | some x =>
 obtain ⟨x2,r4⟩:=x
 obtain ⟨g4,v,rfl,⟨rfl,_,_⟩,b4⟩:=h4.is_yes d4
 have S4:=S3.kept14 g4 hne
 have G4:=G3.trans g4
 have R4:=Nat.le_trans (dec_less _ d4) R3
 have z4:=S4.lt
 have hO:=owns_later14 hO g4 (by omega)
 clear h4 S3 G3 b3 g4
 go_wp2_with fail
 refine (pplace14 r4 (by omega) pb _ b4).mono ?_
 intro e w5 h5
 cases d5:Codec.plP.dec r4 with
 | none=>obtain ⟨g5,rfl⟩:=h5.is_no d5;exact ⟨rfl,Rd.no (pair_no2 d1 (pair_no2 d2 (pair_no2 d3 (pair_no1 (pair_no2 d4 (pair_no1 d5)))))) (G4.trans g5)⟩
 | some x =>
 obtain ⟨x3,r5⟩:=x
 obtain ⟨g5,v,rfl,⟨rfl,_,_⟩,b5⟩:=h5.is_yes d5
 have S5:=S4.kept14 g5 hne
 have G5:=G4.trans g5
 have R5:=Nat.le_trans (dec_less _ d5) R4
 have z5:=S5.lt
 have hO:=owns_later14 hO g5 (by omega)
 clear h5 S4 G4 b4 g5
 go_wp2_with fail
 refine (pplace14 r5 (by omega) pb _ b5).mono ?_
 intro e w6 h6
 cases d6:Codec.plP.dec r5 with
 | none=>obtain ⟨g6,rfl⟩:=h6.is_no d6;exact ⟨rfl,Rd.no (pair_no2 d1 (pair_no2 d2 (pair_no2 d3 (pair_no1 (pair_no2 d4 (pair_no2 d5 d6)))))) (G5.trans g6)⟩
 | some x =>
 obtain ⟨x4,r6⟩:=x
 obtain ⟨g6,v,rfl,⟨rfl,_,_⟩,b6⟩:=h6.is_yes d6
 have S6:=S5.kept14 g6 hne
 have G6:=G5.trans g6
 have R6:=Nat.le_trans (dec_less _ d6) R5
 have z6:=S6.lt
 have hO:=owns_later14 hO g6 (by omega)
 clear h6 S5 G5 b5 g6
 go_wp2_with fail
 refine (plistE14 128 (by omega) r6 (by omega) pb _ b6).mono ?_
 intro e w7 h7
 cases d7:(Codec.many Codec.edP 128).dec r6 with
 | none=>obtain ⟨g7,rfl⟩:=h7.is_no d7;exact ⟨rfl,Rd.no (pair_no2 d1 (pair_no2 d2 (pair_no2 d3 (pair_no2 (pair_yes d4 (pair_yes d5 d6)) d7)))) (G6.trans g7)⟩
 | some x =>
 obtain ⟨xr,r7⟩:=x
 obtain ⟨g7,v,rfl,⟨hE,lE⟩,b7⟩:=h7.is_yes d7
 have S7:=S6.kept14 g7 hne
 have G7:=G6.trans g7
 have R7:=Nat.le_trans (dec_less _ d7) R6
 have z7:=S7.lt
 have hO:=owns_later14 hO g7 (by omega)
 obtain ⟨ra,rc,rfl⟩:=owns_slice14 hE
 have hE:=owns_base14 (C:=w.heap.size+1) hE (by omega)
 clear h7 S6 G6 b6 g7
 have c0:w7.cell? ⟨w.heap.size,0,none⟩=some (.int .i64 0):=S7.cell 0 _ rfl
 have f0:=S7.frozen 0
 have c1:w7.cell? ⟨w.heap.size,1,none⟩=some (.bool false):=S7.cell 1 _ rfl
 have f1:=S7.frozen 1
 have c2:w7.cell? ⟨w.heap.size,2,none⟩=some (.slice none 0 0):=S7.cell 2 _ rfl
 have f2:=S7.frozen 2
 have c3:w7.cell? ⟨w.heap.size,3,none⟩=some (.int .i64 0):=S7.cell 3 _ rfl
 have f3:=S7.frozen 3
 have c4:w7.cell? ⟨w.heap.size,4,none⟩=some (.int .i64 0):=S7.cell 4 _ rfl
 have f4:=S7.frozen 4
 have c5:w7.cell? ⟨w.heap.size,5,none⟩=some (.int .i64 0):=S7.cell 5 _ rfl
 have f5:=S7.frozen 5
 have c6:w7.cell? ⟨w.heap.size,6,none⟩=some (.slice none 0 0):=S7.cell 6 _ rfl
 have f6:=S7.frozen 6
 have SP:=SBox.putL [.int .i64 x0,.bool (decide (x1=1)),.slice oa xo.length oc,.int .i64 x2,.int .i64 x3,.int .i64 x4,.slice ra xr.length rc] [] [.int .i64 0,.bool false,.slice none 0 0,.int .i64 0,.int .i64 0,.int .i64 0,.slice none 0 0] w7 rfl S7
 have GP:=grown_putL (B:=w.heap.size) [.int .i64 x0,.bool (decide (x1=1)),.slice oa xo.length oc,.int .i64 x2,.int .i64 x3,.int .i64 x4,.slice ra xr.length rc] 0 w7 G7 (Nat.le_refl _)
 have BP:=RB.put (k:=0) [.int .i64 x0,.bool (decide (x1=1)),.slice oa xo.length oc,.int .i64 x2,.int .i64 x3,.int .i64 x4,.slice ra xr.length rc] b7 (Ne.symm hne)
 have OP:=owns_later14 hO (kept_putL (B:=w.heap.size) [.int .i64 x0,.bool (decide (x1=1)),.slice oa xo.length oc,.int .i64 x2,.int .i64 x3,.int .i64 x4,.slice ra xr.length rc] 0 w7) (by omega)
 have EP:=owns_later14 hE (kept_putL (B:=w.heap.size) [.int .i64 x0,.bool (decide (x1=1)),.slice oa xo.length oc,.int .i64 x2,.int .i64 x3,.int .i64 x4,.slice ra xr.length rc] 0 w7) (by omega)
 go_wp2_with fail
 exact bodyPost_ret (v:=.agg #[.int .i64 x0,.bool (decide (x1=1)),.slice oa xo.length oc,.int .i64 x2,.int .i64 x3,.int .i64 x4,.slice ra xr.length rc]) (results_row1 Tryz.results112 _ _ w.heap.size 28 _ (0,0) _ rfl SP Tryz.underlying28 rfl size_vd) rfl (Rd.yes (a:=(x0,x1,xo,(x2,x3,x4),xr)) (pair_yes d1 (pair_yes d2 (pair_yes d3 (pair_yes (pair_yes d4 (pair_yes d5 d6)) d7)))) GP ⟨oa,oc,ra,rc,rfl,OP,EP,lO,lE⟩ BP)
structure CtB (B:Nat) (W:World) (c:Ct) (vo vr vp:Value):Prop where
 ord:W.ownsRow B 3 1 vo c.2.2.2.2.2.1.2.2.1.length (recV intV c.2.2.2.2.2.1.2.2.1)
 rng:W.ownsRow B 71 5 vr c.2.2.2.2.2.1.2.2.2.2.length (recV edV c.2.2.2.2.2.1.2.2.2.2)
 prf:∃ L':List PVt,W.ownsRow B 66 6 vp L'.length (recV pfV L')∧PfR B W L' c.2.2.2.2.2.2
 few:c.2.2.2.2.2.1.2.2.1.length≤140737488351232∧c.2.2.2.2.2.1.2.2.2.2.length≤140737488351232∧c.2.2.2.2.2.2.length≤140737488351232
theorem CtB.kept {B x:Nat} {W W':World} {c:Ct} {vo vr vp:Value} (h:CtB B W c vo vr vp) (hg:W.grownBy W' (some x)) (hx:x < B):CtB B W' c vo vr vp:=by
 obtain ⟨L',h3,h4⟩:=h.prf
 exact ⟨owns_later14 h.ord hg hx,owns_later14 h.rng hg hx,⟨L',owns_later14 h3 hg hx,h4.kept hg hx⟩,h.few⟩
theorem CtB.below {B:Nat} {W W':World} {c:Ct} {vo vr vp:Value} (h:CtB B W c vo vr vp) (hb:Below W.heap.size W W') (hB:0 < B):CtB B W' c vo vr vp:=h.kept (grown_below8 (some 0) hb) hB
theorem CtB.at_ {B:Nat} {W:World} {c:Ct} {vo vr vp:Value} (h:CtB B W c vo vr vp):CtAt W c vo vr vp:=by
 obtain ⟨L',h3,h4⟩:=h.prf
 exact ⟨IsRec.own intV_len (by omega) h.ord h.few.1,IsRec.own edV_len (by omega) h.rng h.few.2.1,⟨L',IsRec.own pfV_len (by omega) h3 (by rw [h4.1];exact h.few.2.2),h4.of⟩⟩
def CtV (B:Nat) (W:World) (x:Codec.CtQ) (v:Value):Prop:=∃ oa oc ra rc pa pc,v=.agg (ctC (Codec.toCq x) (.slice oa x.2.2.2.2.2.1.2.2.1.length oc) (.slice ra x.2.2.2.2.2.1.2.2.2.2.length rc) (.slice pa x.2.2.2.2.2.2.length pc))∧CtB B W (Codec.toCq x) (.slice oa x.2.2.2.2.2.1.2.2.1.length oc) (.slice ra x.2.2.2.2.2.1.2.2.2.2.length rc) (.slice pa x.2.2.2.2.2.2.length pc)
set_option maxHeartbeats 4000000 in
theorem pcert14 (R:List UInt8) (hR:R.length≤9223372036854770000) (pb:Nat) (w:World) (hb:RB w pb R) :
 Calls Tryz.prog 51 #[.pointer (some ⟨pb,0,none⟩)] w fun e w'=>Rd w pb (Codec.ctQ.dec R) (fun W x v=>CtV (w.heap.size+1) W x v) e w':=by
 have S0:=SBox.new w 35 #[.string ⟨#[]⟩,.int .i64 0,.string ⟨#[]⟩,.string ⟨#[]⟩,.int .i64 0,.int .i64 0,.bool false,.slice none 0 0,.int .i64 0,.int .i64 0,.int .i64 0,.slice none 0 0,.slice none 0 0]
 have g0:w.grownBy (w.alloc (.cells #[.string ⟨#[]⟩,.int .i64 0,.string ⟨#[]⟩,.string ⟨#[]⟩,.int .i64 0,.int .i64 0,.bool false,.slice none 0 0,.int .i64 0,.int .i64 0,.int .i64 0,.slice none 0 0,.slice none 0 0] 35)) (some pb):=World.grownBy_alloc _ _ _
 have b0:=hb.alloc (.cells #[.string ⟨#[]⟩,.int .i64 0,.string ⟨#[]⟩,.string ⟨#[]⟩,.int .i64 0,.int .i64 0,.bool false,.slice none 0 0,.int .i64 0,.int .i64 0,.int .i64 0,.slice none 0 0,.slice none 0 0] 35)
 have hlt:=hb.lt
 have hne:w.heap.size≠pb:=by omega
 have hmf:∀ (fn:Fn) (first cap:Array Value) (w:World),(Instr.makeFunc fn first cap).run Tryz.prog w=.ok (.func fn first cap) w:=fun _ _ _ _=>rfl
 go_enter Tryz.func51,Tryz.ntmps51
 go_wp2_with fail
 refine (ptext14 16 R (by omega) pb _ b0).mono ?_
 intro e w1 h1
 cases d1:(Codec.text 16).dec R with
 | none=>obtain ⟨g1,rfl⟩:=h1.is_no d1;exact ⟨rfl,Rd.no (pair_no1 d1) (g0.trans g1)⟩
 | some x =>
 obtain ⟨t0,r1⟩:=x
 obtain ⟨g1,v,rfl,⟨rfl,_⟩,b1⟩:=h1.is_yes d1
 have S1:=S0.kept14 g1 hne
 have G1:=g0.trans g1
 have R1:=Nat.le_trans (dec_less _ d1) hR
 have z1:=S1.lt
 clear h1 S0 g0 b0 g1
 go_wp2_with fail
 refine (pnum14 1048576 (by omega) r1 (by omega) pb _ b1).mono ?_
 intro e w2 h2
 cases d2:(Codec.num 1048576).dec r1 with
 | none=>obtain ⟨g2,rfl⟩:=h2.is_no d2;exact ⟨rfl,Rd.no (pair_no2 d1 (pair_no1 d2)) (G1.trans g2)⟩
 | some x =>
 obtain ⟨x0,r2⟩:=x
 obtain ⟨g2,v,rfl,⟨rfl,_,_⟩,b2⟩:=h2.is_yes d2
 have S2:=S1.kept14 g2 hne
 have G2:=G1.trans g2
 have R2:=Nat.le_trans (dec_less _ d2) R1
 have z2:=S2.lt
 clear h2 S1 G1 b1 g2
 go_wp2_with fail
 refine (ptext14 32 r2 (by omega) pb _ b2).mono ?_
 intro e w3 h3
 cases d3:(Codec.text 32).dec r2 with
 | none=>obtain ⟨g3,rfl⟩:=h3.is_no d3;exact ⟨rfl,Rd.no (pair_no2 d1 (pair_no2 d2 (pair_no1 d3))) (G2.trans g3)⟩
 | some x =>
 obtain ⟨t1,r3⟩:=x
 obtain ⟨g3,v,rfl,⟨rfl,_⟩,b3⟩:=h3.is_yes d3
 have S3:=S2.kept14 g3 hne
 have G3:=G2.trans g3
 have R3:=Nat.le_trans (dec_less _ d3) R2
 have z3:=S3.lt
 clear h3 S2 G2 b2 g3
 go_wp2_with fail
 refine (ptext14 32 r3 (by omega) pb _ b3).mono ?_
 intro e w4 h4
 cases d4:(Codec.text 32).dec r3 with
 | none=>obtain ⟨g4,rfl⟩:=h4.is_no d4;exact ⟨rfl,Rd.no (pair_no2 d1 (pair_no2 d2 (pair_no2 d3 (pair_no1 d4)))) (G3.trans g4)⟩
 | some x =>
 obtain ⟨t2,r4⟩:=x
 obtain ⟨g4,v,rfl,⟨rfl,_⟩,b4⟩:=h4.is_yes d4
 have S4:=S3.kept14 g4 hne
 have G4:=G3.trans g4
 have R4:=Nat.le_trans (dec_less _ d4) R3
 have z4:=S4.lt
 clear h4 S3 G3 b3 g4
 go_wp2_with fail
 refine (pnum14 256 (by omega) r4 (by omega) pb _ b4).mono ?_
 intro e w5 h5
 cases d5:(Codec.num 256).dec r4 with
 | none=>obtain ⟨g5,rfl⟩:=h5.is_no d5;exact ⟨rfl,Rd.no (pair_no2 d1 (pair_no2 d2 (pair_no2 d3 (pair_no2 d4 (pair_no1 d5))))) (G4.trans g5)⟩
 | some x =>
 obtain ⟨x1,r5⟩:=x
 obtain ⟨g5,v,rfl,⟨rfl,_,_⟩,b5⟩:=h5.is_yes d5
 have S5:=S4.kept14 g5 hne
 have G5:=G4.trans g5
 have R5:=Nat.le_trans (dec_less _ d5) R4
 have z5:=S5.lt
 clear h5 S4 G4 b4 g5
 go_wp2_with fail
 refine (pverdict14 r5 (by omega) pb _ b5).mono ?_
 intro e w6 h6
 cases d6:Codec.vdP.dec r5 with
 | none=>obtain ⟨g6,rfl⟩:=h6.is_no d6;exact ⟨rfl,Rd.no (pair_no2 d1 (pair_no2 d2 (pair_no2 d3 (pair_no2 d4 (pair_no2 d5 (pair_no1 d6)))))) (G5.trans g6)⟩
 | some x =>
 obtain ⟨⟨y0,y1,xo,⟨y2,y3,y4⟩,xr⟩,r6⟩:=x
 obtain ⟨g6,v,rfl,⟨oa,oc,ra,rc,rfl,hO,hE,lO,lE⟩,b6⟩:=h6.is_yes d6
 have S6:=S5.kept14 g6 hne
 have G6:=G5.trans g6
 have R6:=Nat.le_trans (dec_less _ d6) R5
 have z6:=S6.lt
 have hO:=owns_base14 (C:=w.heap.size+1) hO (by omega)
 have hE:=owns_base14 (C:=w.heap.size+1) hE (by omega)
 clear h6 S5 G5 b5 g6
 go_wp2_with fail
 refine (plistP14 256 (by omega) r6 (by omega) pb _ b6).mono ?_
 intro e w7 h7
 cases d7:(Codec.many Codec.pfP 256).dec r6 with
 | none=>obtain ⟨g7,rfl⟩:=h7.is_no d7;exact ⟨rfl,Rd.no (pair_no2 d1 (pair_no2 d2 (pair_no2 d3 (pair_no2 d4 (pair_no2 d5 (pair_no2 d6 (d7))))))) (G6.trans g7)⟩
 | some x =>
 obtain ⟨xp,r7⟩:=x
 obtain ⟨g7,v,rfl,⟨L',hP,hPR,lP⟩,b7⟩:=h7.is_yes d7
 have S7:=S6.kept14 g7 hne
 have G7:=G6.trans g7
 have R7:=Nat.le_trans (dec_less _ d7) R6
 have z7:=S7.lt
 have hO:=owns_later14 hO g7 (by omega)
 have hE:=owns_later14 hE g7 (by omega)
 obtain ⟨pa,pc,rfl⟩:=owns_slice14 hP
 have hP:=owns_base14 (C:=w.heap.size+1) hP (by omega)
 have hPR:=hPR.base (C:=w.heap.size+1) (by omega)
 clear h7 S6 G6 b6 g7
 have c0:w7.cell? ⟨w.heap.size,0,none⟩=some (.string ⟨#[]⟩):=S7.cell 0 _ rfl
 have f0:=S7.frozen 0
 have c1:w7.cell? ⟨w.heap.size,1,none⟩=some (.int .i64 0):=S7.cell 1 _ rfl
 have f1:=S7.frozen 1
 have c2:w7.cell? ⟨w.heap.size,2,none⟩=some (.string ⟨#[]⟩):=S7.cell 2 _ rfl
 have f2:=S7.frozen 2
 have c3:w7.cell? ⟨w.heap.size,3,none⟩=some (.string ⟨#[]⟩):=S7.cell 3 _ rfl
 have f3:=S7.frozen 3
 have c4:w7.cell? ⟨w.heap.size,4,none⟩=some (.int .i64 0):=S7.cell 4 _ rfl
 have f4:=S7.frozen 4
 have c5:w7.cell? ⟨w.heap.size,5,none⟩=some (.int .i64 0):=S7.cell 5 _ rfl
 have f5:=S7.frozen 5
 have c6:w7.cell? ⟨w.heap.size,6,none⟩=some (.bool false):=S7.cell 6 _ rfl
 have f6:=S7.frozen 6
 have c7:w7.cell? ⟨w.heap.size,7,none⟩=some (.slice none 0 0):=S7.cell 7 _ rfl
 have f7:=S7.frozen 7
 have c8:w7.cell? ⟨w.heap.size,8,none⟩=some (.int .i64 0):=S7.cell 8 _ rfl
 have f8:=S7.frozen 8
 have c9:w7.cell? ⟨w.heap.size,9,none⟩=some (.int .i64 0):=S7.cell 9 _ rfl
 have f9:=S7.frozen 9
 have c10:w7.cell? ⟨w.heap.size,10,none⟩=some (.int .i64 0):=S7.cell 10 _ rfl
 have f10:=S7.frozen 10
 have c11:w7.cell? ⟨w.heap.size,11,none⟩=some (.slice none 0 0):=S7.cell 11 _ rfl
 have f11:=S7.frozen 11
 have c12:w7.cell? ⟨w.heap.size,12,none⟩=some (.slice none 0 0):=S7.cell 12 _ rfl
 have f12:=S7.frozen 12
 have hl':L'.length=xp.length:=hPR.1
 rw [hl'] at hP
 have SP:=SBox.putL [.string ⟨t0.toArray⟩,.int .i64 x0,.string ⟨t1.toArray⟩,.string ⟨t2.toArray⟩,.int .i64 x1,.int .i64 y0,.bool (decide (y1=1)),.slice oa xo.length oc,.int .i64 y2,.int .i64 y3,.int .i64 y4,.slice ra xr.length rc,.slice pa xp.length pc] [] [.string ⟨#[]⟩,.int .i64 0,.string ⟨#[]⟩,.string ⟨#[]⟩,.int .i64 0,.int .i64 0,.bool false,.slice none 0 0,.int .i64 0,.int .i64 0,.int .i64 0,.slice none 0 0,.slice none 0 0] w7 rfl S7
 have GP:=grown_putL (B:=w.heap.size) [.string ⟨t0.toArray⟩,.int .i64 x0,.string ⟨t1.toArray⟩,.string ⟨t2.toArray⟩,.int .i64 x1,.int .i64 y0,.bool (decide (y1=1)),.slice oa xo.length oc,.int .i64 y2,.int .i64 y3,.int .i64 y4,.slice ra xr.length rc,.slice pa xp.length pc] 0 w7 G7 (Nat.le_refl _)
 have BP:=RB.put (k:=0) [.string ⟨t0.toArray⟩,.int .i64 x0,.string ⟨t1.toArray⟩,.string ⟨t2.toArray⟩,.int .i64 x1,.int .i64 y0,.bool (decide (y1=1)),.slice oa xo.length oc,.int .i64 y2,.int .i64 y3,.int .i64 y4,.slice ra xr.length rc,.slice pa xp.length pc] b7 (Ne.symm hne)
 have K:=kept_putL (B:=w.heap.size) [.string ⟨t0.toArray⟩,.int .i64 x0,.string ⟨t1.toArray⟩,.string ⟨t2.toArray⟩,.int .i64 x1,.int .i64 y0,.bool (decide (y1=1)),.slice oa xo.length oc,.int .i64 y2,.int .i64 y3,.int .i64 y4,.slice ra xr.length rc,.slice pa xp.length pc] 0 w7
 have OP:=owns_later14 hO K (by omega)
 have EP:=owns_later14 hE K (by omega)
 have PP:=owns_later14 hP K (by omega)
 have QP:=hPR.kept K (by omega)
 clear K
 simp only [hl']
 go_wp2_with fail
 exact bodyPost_ret (v:=.agg #[.string ⟨t0.toArray⟩,.int .i64 x0,.string ⟨t1.toArray⟩,.string ⟨t2.toArray⟩,.int .i64 x1,.int .i64 y0,.bool (decide (y1=1)),.slice oa xo.length oc,.int .i64 y2,.int .i64 y3,.int .i64 y4,.slice ra xr.length rc,.slice pa xp.length pc]) (results_row1 Tryz.results51 _ _ w.heap.size 35 _ (0,0) _ rfl SP Tryz.underlying35 rfl size_ct) rfl (Rd.yes (a:=(t0,x0,t1,t2,x1,(y0,y1,xo,(y2,y3,y4),xr),xp)) (pair_yes d1 (pair_yes d2 (pair_yes d3 (pair_yes d4 (pair_yes d5 (pair_yes d6 d7)))))) GP ⟨oa,oc,ra,rc,pa,pc,rfl,OP,EP,⟨L',by rw [hl'];exact PP,QP⟩,(by show xo.length≤_;omega),(by show xr.length≤_;omega),(by show xp.length≤_;omega)⟩ BP)
abbrev zc14:Array Value:=#[.string ⟨#[]⟩,.int .i64 0,.string ⟨#[]⟩,.string ⟨#[]⟩,.int .i64 0,.int .i64 0,.bool false,.slice none 0 0,.int .i64 0,.int .i64 0,.int .i64 0,.slice none 0 0,.slice none 0 0]
theorem take14_none {s:List UInt8} (h:Codec.ctQ.dec s=none):takeR14 s=(zCt,3):=by
 have e:Codec.whole Codec.cqK s=none:=by
  unfold Codec.whole
  have:Codec.cqK.dec s=none:=by unfold Codec.cqK Codec.map;simp only [h]
  rw [this]
 unfold takeR14
 rw [takeC14_q,e]
theorem take14_some {s r:List UInt8} {x:Codec.CtQ} (h:Codec.ctQ.dec s=some (x,r)):takeR14 s=if r=[]∧mayC (Codec.toCq x) then (Codec.toCq x,0) else (zCt,3):=by
 have e:Codec.whole Codec.cqK s=if r=[] then some (Codec.toCq x) else none:=by
  unfold Codec.whole
  have:Codec.cqK.dec s=some (Codec.toCq x,r):=by unfold Codec.cqK Codec.map;simp only [h]
  rw [this]
  cases r<;>simp
 unfold takeR14
 rw [takeC14_q,e]
 by_cases hr:r=[]
 ·rw [if_pos hr]
  simp only
  by_cases hm:mayC (Codec.toCq x)
  ·rw [if_pos hm,if_pos ⟨hr,hm⟩]
  ·rw [if_neg hm,if_neg (fun h=>hm h.2)]
 ·rw [if_neg hr,if_neg (fun h=>hr h.1)]
theorem zct14 (w:World):CtAt w zCt (.slice none 0 0) (.slice none 0 0) (.slice none 0 0):=⟨IsRec.nil _ _ _,IsRec.nil _ _ _,IsPfs.nil _⟩
set_option maxHeartbeats 2000000 in
theorem ptake14_any (s:List UInt8) (w:World) (hs:s.length≤140737488351232):Calls Tryz.prog 20 #[.string ⟨s.toArray⟩] w fun e w'=>CtRes w (takeR14 s) e w':=by
 have hmf:∀ (fn:Fn) (first cap:Array Value) (w:World),(Instr.makeFunc fn first cap).run Tryz.prog w=.ok (.func fn first cap) w:=fun _ _ _ _=>rfl
 obtain ⟨W0,hW0⟩:∃ W0,W0=((w.alloc (.cells zc14 35)).alloc (.cells #[.int .i64 0] 36)).alloc (.cells #[.string ⟨s.toArray⟩] 110):=⟨_,rfl⟩
 have T0:SBox W0 w.heap.size 35 zc14:=by rw [hW0];exact ((SBox.new w _ _).alloc _).alloc _
 have E0:SBox W0 (w.heap.size+1) 36 #[.int .i64 0]:=by rw [hW0];have:=SBox.new (w.alloc (.cells zc14 35)) 36 #[.int .i64 0];rw [World.size_alloc] at this;exact this.alloc _
 have R0:RB W0 (w.heap.size+1+1) s:=by rw [hW0];have:=SBox.new ((w.alloc (.cells zc14 35)).alloc (.cells #[.int .i64 0] 36)) 110 #[.string ⟨s.toArray⟩];rw [World.size_alloc,World.size_alloc] at this;exact this
 have B0:Below w.heap.size w W0:=by rw [hW0];exact (((Below.refl _ w).alloc (Nat.le_refl _) _).alloc (by simp) _).alloc (by simp;omega) _
 have bel:∀ W,W0.grownBy W (some (w.heap.size+1+1))→Below w.heap.size w W:=fun W g=>B0.grown g B0.size (fun k e=>by cases e;omega)
 cases hd:Codec.ctQ.dec s with
 | none =>
   rw [take14_none hd]
   go_enter_defers Tryz.func20,Tryz.ntmps20
   go_wp2_with fail
   refine Calls.mono (hW0 ▸ pcert14 s (by omega) (w.heap.size+1+1) W0 R0) ?_
   intro e w1 h1
   rw [← hW0] at h1
   obtain ⟨g1,rfl⟩:=h1.is_no hd
   have T1:=T0.kept14 g1 (by omega)
   have E1:=E0.kept14 g1 (by omega)
   exact door14_no rfl rfl T1 rfl E1 ⟨_,_,_,rfl,(bel w1 g1).setCell (p:=⟨w.heap.size+1,0,none⟩) (by show w.heap.size≤w.heap.size+1;omega) _,zct14 _⟩
 | some x =>
   obtain ⟨⟨tn,sq,pv,rt,ct,⟨lv,acn,o,⟨k,i,j⟩,rr⟩,p⟩,r⟩:=x
   rw [take14_some hd]
   obtain ⟨ac,hac⟩:∃ b,decide (acn=1)=b:=⟨_,rfl⟩
   simp only [Codec.toCq,Codec.toVd,hac]
   obtain ⟨ANS,hANS⟩:∃ a,(if r=[]∧mayC (tn,sq,pv,rt,ct,(lv,ac,o,(k,i,j),rr),p) then ((tn,sq,pv,rt,ct,(lv,ac,o,(k,i,j),rr),p),(0:Int)) else (zCt,3))=a:=⟨_,rfl⟩
   have HANS:Hid ((if r=[]∧mayC (tn,sq,pv,rt,ct,(lv,ac,o,(k,i,j),rr),p) then ((tn,sq,pv,rt,ct,(lv,ac,o,(k,i,j),rr),p),(0:Int)) else (zCt,3))=ANS):=hANS
   rw [hANS]
   clear hANS
   have HAC:Hid (decide (acn=1)=ac):=hac
   clear hac
   have hx:=dec_less _ hd
   go_enter_defers Tryz.func20,Tryz.ntmps20
   go_wp2_with fail
   refine Calls.mono (hW0 ▸ pcert14 s (by omega) (w.heap.size+1+1) W0 R0) ?_
   intro e w1 h1
   rw [← hW0] at h1
   obtain ⟨g1,v,rfl,⟨oa,oc,ra,rc,pa,pc,rfl,hC⟩,R1⟩:=h1.is_yes hd
   have T1:=T0.kept14 g1 (by omega)
   have E1:=E0.kept14 g1 (by omega)
   have B1:=bel w1 g1
   have hs0:=R0.lt
   clear h1 T0 E0 R0 B0 bel hd g1 hW0
   have HC0:CtB (W0.heap.size+1) w1 (tn,sq,pv,rt,ct,(lv,ac,o,(k,i,j),rr),p) (.slice oa o.length oc) (.slice ra rr.length rc) (.slice pa p.length pc):=by rw [← HAC.out];exact hC
   clear hC
   obtain ⟨hO,hRr,hP⟩:=HC0.at_
   simp only at hO hRr hP
   simp only [Codec.toCq,Codec.toVd]
   rw [HAC.out]
   have X2:=SBox.new w1 35 #[.string ⟨tn.toArray⟩,.int .i64 sq,.string ⟨pv.toArray⟩,.string ⟨rt.toArray⟩,.int .i64 ct,.int .i64 lv,.bool ac,.slice oa o.length oc,.int .i64 k,.int .i64 i,.int .i64 j,.slice ra rr.length rc,.slice pa p.length pc]
   have T2:=T1.alloc (.cells #[.string ⟨tn.toArray⟩,.int .i64 sq,.string ⟨pv.toArray⟩,.string ⟨rt.toArray⟩,.int .i64 ct,.int .i64 lv,.bool ac,.slice oa o.length oc,.int .i64 k,.int .i64 i,.int .i64 j,.slice ra rr.length rc,.slice pa p.length pc] 35)
   have E2:=E1.alloc (.cells #[.string ⟨tn.toArray⟩,.int .i64 sq,.string ⟨pv.toArray⟩,.string ⟨rt.toArray⟩,.int .i64 ct,.int .i64 lv,.bool ac,.slice oa o.length oc,.int .i64 k,.int .i64 i,.int .i64 j,.slice ra rr.length rc,.slice pa p.length pc] 35)
   have R2:=R1.alloc (.cells #[.string ⟨tn.toArray⟩,.int .i64 sq,.string ⟨pv.toArray⟩,.string ⟨rt.toArray⟩,.int .i64 ct,.int .i64 lv,.bool ac,.slice oa o.length oc,.int .i64 k,.int .i64 i,.int .i64 j,.slice ra rr.length rc,.slice pa p.length pc] 35)
   have A2:Below w1.heap.size w1 (w1.alloc (.cells #[.string ⟨tn.toArray⟩,.int .i64 sq,.string ⟨pv.toArray⟩,.string ⟨rt.toArray⟩,.int .i64 ct,.int .i64 lv,.bool ac,.slice oa o.length oc,.int .i64 k,.int .i64 i,.int .i64 j,.slice ra rr.length rc,.slice pa p.length pc] 35)):=(Below.refl _ w1).alloc (Nat.le_refl _) _
   have B2:=bel_trans B1 A2
   have cr:(w1.alloc (.cells #[.string ⟨tn.toArray⟩,.int .i64 sq,.string ⟨pv.toArray⟩,.string ⟨rt.toArray⟩,.int .i64 ct,.int .i64 lv,.bool ac,.slice oa o.length oc,.int .i64 k,.int .i64 i,.int .i64 j,.slice ra rr.length rc,.slice pa p.length pc] 35)).cell? ⟨w.heap.size+1+1,0,none⟩=some (.string ⟨r.toArray⟩):=R2.cell 0 _ rfl
   have c0:(w1.alloc (.cells #[.string ⟨tn.toArray⟩,.int .i64 sq,.string ⟨pv.toArray⟩,.string ⟨rt.toArray⟩,.int .i64 ct,.int .i64 lv,.bool ac,.slice oa o.length oc,.int .i64 k,.int .i64 i,.int .i64 j,.slice ra rr.length rc,.slice pa p.length pc] 35)).cell? ⟨w1.heap.size,0,none⟩=some (.string ⟨tn.toArray⟩):=X2.cell 0 _ rfl
   have c1:(w1.alloc (.cells #[.string ⟨tn.toArray⟩,.int .i64 sq,.string ⟨pv.toArray⟩,.string ⟨rt.toArray⟩,.int .i64 ct,.int .i64 lv,.bool ac,.slice oa o.length oc,.int .i64 k,.int .i64 i,.int .i64 j,.slice ra rr.length rc,.slice pa p.length pc] 35)).cell? ⟨w1.heap.size,1,none⟩=some (.int .i64 sq):=X2.cell 1 _ rfl
   have c2:(w1.alloc (.cells #[.string ⟨tn.toArray⟩,.int .i64 sq,.string ⟨pv.toArray⟩,.string ⟨rt.toArray⟩,.int .i64 ct,.int .i64 lv,.bool ac,.slice oa o.length oc,.int .i64 k,.int .i64 i,.int .i64 j,.slice ra rr.length rc,.slice pa p.length pc] 35)).cell? ⟨w1.heap.size,2,none⟩=some (.string ⟨pv.toArray⟩):=X2.cell 2 _ rfl
   have c3:(w1.alloc (.cells #[.string ⟨tn.toArray⟩,.int .i64 sq,.string ⟨pv.toArray⟩,.string ⟨rt.toArray⟩,.int .i64 ct,.int .i64 lv,.bool ac,.slice oa o.length oc,.int .i64 k,.int .i64 i,.int .i64 j,.slice ra rr.length rc,.slice pa p.length pc] 35)).cell? ⟨w1.heap.size,3,none⟩=some (.string ⟨rt.toArray⟩):=X2.cell 3 _ rfl
   have c4:(w1.alloc (.cells #[.string ⟨tn.toArray⟩,.int .i64 sq,.string ⟨pv.toArray⟩,.string ⟨rt.toArray⟩,.int .i64 ct,.int .i64 lv,.bool ac,.slice oa o.length oc,.int .i64 k,.int .i64 i,.int .i64 j,.slice ra rr.length rc,.slice pa p.length pc] 35)).cell? ⟨w1.heap.size,4,none⟩=some (.int .i64 ct):=X2.cell 4 _ rfl
   have c5:(w1.alloc (.cells #[.string ⟨tn.toArray⟩,.int .i64 sq,.string ⟨pv.toArray⟩,.string ⟨rt.toArray⟩,.int .i64 ct,.int .i64 lv,.bool ac,.slice oa o.length oc,.int .i64 k,.int .i64 i,.int .i64 j,.slice ra rr.length rc,.slice pa p.length pc] 35)).cell? ⟨w1.heap.size,5,none⟩=some (.int .i64 lv):=X2.cell 5 _ rfl
   have c6:(w1.alloc (.cells #[.string ⟨tn.toArray⟩,.int .i64 sq,.string ⟨pv.toArray⟩,.string ⟨rt.toArray⟩,.int .i64 ct,.int .i64 lv,.bool ac,.slice oa o.length oc,.int .i64 k,.int .i64 i,.int .i64 j,.slice ra rr.length rc,.slice pa p.length pc] 35)).cell? ⟨w1.heap.size,6,none⟩=some (.bool ac):=X2.cell 6 _ rfl
   have c7:(w1.alloc (.cells #[.string ⟨tn.toArray⟩,.int .i64 sq,.string ⟨pv.toArray⟩,.string ⟨rt.toArray⟩,.int .i64 ct,.int .i64 lv,.bool ac,.slice oa o.length oc,.int .i64 k,.int .i64 i,.int .i64 j,.slice ra rr.length rc,.slice pa p.length pc] 35)).cell? ⟨w1.heap.size,7,none⟩=some (.slice oa o.length oc):=X2.cell 7 _ rfl
   have c8:(w1.alloc (.cells #[.string ⟨tn.toArray⟩,.int .i64 sq,.string ⟨pv.toArray⟩,.string ⟨rt.toArray⟩,.int .i64 ct,.int .i64 lv,.bool ac,.slice oa o.length oc,.int .i64 k,.int .i64 i,.int .i64 j,.slice ra rr.length rc,.slice pa p.length pc] 35)).cell? ⟨w1.heap.size,8,none⟩=some (.int .i64 k):=X2.cell 8 _ rfl
   have c9:(w1.alloc (.cells #[.string ⟨tn.toArray⟩,.int .i64 sq,.string ⟨pv.toArray⟩,.string ⟨rt.toArray⟩,.int .i64 ct,.int .i64 lv,.bool ac,.slice oa o.length oc,.int .i64 k,.int .i64 i,.int .i64 j,.slice ra rr.length rc,.slice pa p.length pc] 35)).cell? ⟨w1.heap.size,9,none⟩=some (.int .i64 i):=X2.cell 9 _ rfl
   have c10:(w1.alloc (.cells #[.string ⟨tn.toArray⟩,.int .i64 sq,.string ⟨pv.toArray⟩,.string ⟨rt.toArray⟩,.int .i64 ct,.int .i64 lv,.bool ac,.slice oa o.length oc,.int .i64 k,.int .i64 i,.int .i64 j,.slice ra rr.length rc,.slice pa p.length pc] 35)).cell? ⟨w1.heap.size,10,none⟩=some (.int .i64 j):=X2.cell 10 _ rfl
   have c11:(w1.alloc (.cells #[.string ⟨tn.toArray⟩,.int .i64 sq,.string ⟨pv.toArray⟩,.string ⟨rt.toArray⟩,.int .i64 ct,.int .i64 lv,.bool ac,.slice oa o.length oc,.int .i64 k,.int .i64 i,.int .i64 j,.slice ra rr.length rc,.slice pa p.length pc] 35)).cell? ⟨w1.heap.size,11,none⟩=some (.slice ra rr.length rc):=X2.cell 11 _ rfl
   have c12:(w1.alloc (.cells #[.string ⟨tn.toArray⟩,.int .i64 sq,.string ⟨pv.toArray⟩,.string ⟨rt.toArray⟩,.int .i64 ct,.int .i64 lv,.bool ac,.slice oa o.length oc,.int .i64 k,.int .i64 i,.int .i64 j,.slice ra rr.length rc,.slice pa p.length pc] 35)).cell? ⟨w1.heap.size,12,none⟩=some (.slice pa p.length pc):=X2.cell 12 _ rfl
   have hlt:=T1.lt
   by_cases hr:r=[]
   ·have e0:r.isEmpty=true:=by subst hr;rfl
    go_wp2_with fail
    refine (pmayc14 tn sq pv rt ct lv k i j ac oa oc o ra rc rr pa pc p _ (hO.below A2) (hRr.below A2) (hP.below A2)).mono ?_
    rintro e w3 ⟨rfl,b3⟩
    have X3:=X2.below b3
    have T3:=T2.below b3
    have E3:=E2.below b3
    have B3:=bel_trans B2 b3
    have HC3:=(HC0.below A2 (by omega)).below b3 (by omega)
    by_cases hm:mayC (tn,sq,pv,rt,ct,(lv,ac,o,(k,i,j),rr),p)
    ·have HA:Hid (ANS=((tn,sq,pv,rt,ct,(lv,ac,o,(k,i,j),rr),p),0)):=by show _=_;rw [← HANS.out,if_pos ⟨hr,hm⟩]
     rw [decide_eq_true hm]
     clear hm hr c0 c1 c2 c3 c4 c5 c6 c7 c8 c9 c10 c11 c12 cr X2 T2 E2 R2 B2 b3
     go_wp2_with fail
     refine (pwant14_yes _).mono ?_
     rintro e w4 ⟨rfl,rfl⟩
     have c0:w4.cell? ⟨w1.heap.size,0,none⟩=some (.string ⟨tn.toArray⟩):=X3.cell 0 _ rfl
     have c1:w4.cell? ⟨w1.heap.size,1,none⟩=some (.int .i64 sq):=X3.cell 1 _ rfl
     have c2:w4.cell? ⟨w1.heap.size,2,none⟩=some (.string ⟨pv.toArray⟩):=X3.cell 2 _ rfl
     have c3:w4.cell? ⟨w1.heap.size,3,none⟩=some (.string ⟨rt.toArray⟩):=X3.cell 3 _ rfl
     have c4:w4.cell? ⟨w1.heap.size,4,none⟩=some (.int .i64 ct):=X3.cell 4 _ rfl
     have c5:w4.cell? ⟨w1.heap.size,5,none⟩=some (.int .i64 lv):=X3.cell 5 _ rfl
     have c6:w4.cell? ⟨w1.heap.size,6,none⟩=some (.bool ac):=X3.cell 6 _ rfl
     have c7:w4.cell? ⟨w1.heap.size,7,none⟩=some (.slice oa o.length oc):=X3.cell 7 _ rfl
     have c8:w4.cell? ⟨w1.heap.size,8,none⟩=some (.int .i64 k):=X3.cell 8 _ rfl
     have c9:w4.cell? ⟨w1.heap.size,9,none⟩=some (.int .i64 i):=X3.cell 9 _ rfl
     have c10:w4.cell? ⟨w1.heap.size,10,none⟩=some (.int .i64 j):=X3.cell 10 _ rfl
     have c11:w4.cell? ⟨w1.heap.size,11,none⟩=some (.slice ra rr.length rc):=X3.cell 11 _ rfl
     have c12:w4.cell? ⟨w1.heap.size,12,none⟩=some (.slice pa p.length pc):=X3.cell 12 _ rfl
     have z0:w4.cell? ⟨w.heap.size,0,none⟩=some (.string ⟨#[]⟩):=T3.cell 0 _ rfl
     have f0:=T3.frozen 0
     have z1:w4.cell? ⟨w.heap.size,1,none⟩=some (.int .i64 0):=T3.cell 1 _ rfl
     have f1:=T3.frozen 1
     have z2:w4.cell? ⟨w.heap.size,2,none⟩=some (.string ⟨#[]⟩):=T3.cell 2 _ rfl
     have f2:=T3.frozen 2
     have z3:w4.cell? ⟨w.heap.size,3,none⟩=some (.string ⟨#[]⟩):=T3.cell 3 _ rfl
     have f3:=T3.frozen 3
     have z4:w4.cell? ⟨w.heap.size,4,none⟩=some (.int .i64 0):=T3.cell 4 _ rfl
     have f4:=T3.frozen 4
     have z5:w4.cell? ⟨w.heap.size,5,none⟩=some (.int .i64 0):=T3.cell 5 _ rfl
     have f5:=T3.frozen 5
     have z6:w4.cell? ⟨w.heap.size,6,none⟩=some (.bool false):=T3.cell 6 _ rfl
     have f6:=T3.frozen 6
     have z7:w4.cell? ⟨w.heap.size,7,none⟩=some (.slice none 0 0):=T3.cell 7 _ rfl
     have f7:=T3.frozen 7
     have z8:w4.cell? ⟨w.heap.size,8,none⟩=some (.int .i64 0):=T3.cell 8 _ rfl
     have f8:=T3.frozen 8
     have z9:w4.cell? ⟨w.heap.size,9,none⟩=some (.int .i64 0):=T3.cell 9 _ rfl
     have f9:=T3.frozen 9
     have z10:w4.cell? ⟨w.heap.size,10,none⟩=some (.int .i64 0):=T3.cell 10 _ rfl
     have f10:=T3.frozen 10
     have z11:w4.cell? ⟨w.heap.size,11,none⟩=some (.slice none 0 0):=T3.cell 11 _ rfl
     have f11:=T3.frozen 11
     have z12:w4.cell? ⟨w.heap.size,12,none⟩=some (.slice none 0 0):=T3.cell 12 _ rfl
     have f12:=T3.frozen 12
     have ce:w4.cell? ⟨w.heap.size+1,0,none⟩=some (.int .i64 0):=E3.cell 0 _ rfl
     have fe:=E3.frozen 0
     have HC5:=(HC3.kept (kept_putL (B:=w.heap.size) [.string ⟨tn.toArray⟩,.int .i64 sq,.string ⟨pv.toArray⟩,.string ⟨rt.toArray⟩,.int .i64 ct,.int .i64 lv,.bool ac,.slice oa o.length oc,.int .i64 k,.int .i64 i,.int .i64 j,.slice ra rr.length rc,.slice pa p.length pc] 0 w4) (by omega)).kept (grown_set14 _ (w.heap.size+1) 0 (.int .i64 0)) (by omega)
     have SP:=(SBox.putL [.string ⟨tn.toArray⟩,.int .i64 sq,.string ⟨pv.toArray⟩,.string ⟨rt.toArray⟩,.int .i64 ct,.int .i64 lv,.bool ac,.slice oa o.length oc,.int .i64 k,.int .i64 i,.int .i64 j,.slice ra rr.length rc,.slice pa p.length pc] [] [.string ⟨#[]⟩,.int .i64 0,.string ⟨#[]⟩,.string ⟨#[]⟩,.int .i64 0,.int .i64 0,.bool false,.slice none 0 0,.int .i64 0,.int .i64 0,.int .i64 0,.slice none 0 0,.slice none 0 0] w4 rfl T3).other (w.heap.size+1) 0 (.int .i64 0) (by omega)
     have SE:=(E3.kept14 (kept_putL (B:=w.heap.size) [.string ⟨tn.toArray⟩,.int .i64 sq,.string ⟨pv.toArray⟩,.string ⟨rt.toArray⟩,.int .i64 ct,.int .i64 lv,.bool ac,.slice oa o.length oc,.int .i64 k,.int .i64 i,.int .i64 j,.slice ra rr.length rc,.slice pa p.length pc] 0 w4) (by omega)).set 0 (.int .i64 0)
     have SB:=((B3.grown (kept_putL (B:=w.heap.size) [.string ⟨tn.toArray⟩,.int .i64 sq,.string ⟨pv.toArray⟩,.string ⟨rt.toArray⟩,.int .i64 ct,.int .i64 lv,.bool ac,.slice oa o.length oc,.int .i64 k,.int .i64 i,.int .i64 j,.slice ra rr.length rc,.slice pa p.length pc] 0 w4) B3.size (fun q h9=>by cases h9;exact Nat.le_refl _))).setCell (p:=⟨w.heap.size+1,0,none⟩) (by show w.heap.size≤w.heap.size+1;omega) (.int .i64 0)
     go_wp2_with fail
     exact door14_yes rfl rfl SP rfl SE (by rw [HA.out];exact ⟨_,_,_,rfl,SB,HC5.at_⟩)
    ·have HA:Hid (ANS=(zCt,3)):=by show _=_;rw [← HANS.out,if_neg (fun h9=>hm h9.2)]
     rw [decide_eq_false hm]
     clear hm hr c0 c1 c2 c3 c4 c5 c6 c7 c8 c9 c10 c11 c12 cr X2 T2 E2 R2 B2 b3
     go_wp2_with fail
     refine (pwant14_no _).mono ?_
     rintro e w4 ⟨rfl,rfl⟩
     exact door14_no rfl rfl T3 rfl E3 (by rw [HA.out];exact ⟨_,_,_,rfl,B3.setCell (p:=⟨w.heap.size+1,0,none⟩) (by show w.heap.size≤w.heap.size+1;omega) _,zct14 _⟩)
   ·have e0:r.isEmpty=false:=by cases r with | nil=>exact absurd rfl hr | cons a b=>rfl
    have HA:Hid (ANS=(zCt,3)):=by show _=_;rw [← HANS.out,if_neg (fun h9=>hr h9.1)]
    clear hr
    go_wp2_with fail
    refine (pwant14_no _).mono ?_
    rintro e w4 ⟨rfl,rfl⟩
    exact door14_no rfl rfl T2 rfl E2 (by rw [HA.out];exact ⟨_,_,_,rfl,B2.setCell (p:=⟨w.heap.size+1,0,none⟩) (by show w.heap.size≤w.heap.size+1;omega) _,zct14 _⟩)
theorem p14c:P14C where
 make:=fun w vh hG hT=>pmake14 w vh hG hT
 needs:=fun h v vh vo vr w hT _ hO hR hl hr=>by
  obtain ⟨a,cap,rfl,_⟩:=hT.some_at
  obtain ⟨oa,oc,rfl,_⟩:=hO.some_at
  obtain ⟨ra,rc,rfl,_⟩:=hR.some_at
  obtain ⟨lv,ac,o,⟨k,i,j⟩,r⟩:=v
  exact pneeds14 h lv k i j ac oa oc o ra rc r a cap w hT hR hl hr
 may:=fun c vo vr vp w hC=>by
  obtain ⟨hO,hR,hP⟩:=hC
  obtain ⟨oa,oc,rfl,_⟩:=hO.some_at
  obtain ⟨ra,rc,rfl,_⟩:=hR.some_at
  obtain ⟨pa,pc,rfl,_⟩:=hP.len
  obtain ⟨tn,sq,pv,rt,ct,⟨lv,ac,o,⟨k,i,j⟩,r⟩,p⟩:=c
  exact pmayc14 tn sq pv rt ct lv k i j ac oa oc o ra rc r pa pc p w hO hR hP
 bytes:=fun c vo vr vp w hC=>by
  obtain ⟨hO,hR,hP⟩:=hC
  obtain ⟨oa,oc,rfl,_⟩:=hO.some_at
  obtain ⟨ra,rc,rfl,_⟩:=hR.some_at
  obtain ⟨pa,pc,rfl,_⟩:=hP.len
  obtain ⟨tn,sq,pv,rt,ct,⟨lv,ac,o,⟨k,i,j⟩,r⟩,p⟩:=c
  exact pbytesc14 tn sq pv rt ct lv k i j ac oa oc o ra rc r pa pc p w hO hR hP
 take:=fun s w hs=>ptake14_any s w hs
end Go.Proofs.YtkkenfhlgpjmjaaGreatDoor
