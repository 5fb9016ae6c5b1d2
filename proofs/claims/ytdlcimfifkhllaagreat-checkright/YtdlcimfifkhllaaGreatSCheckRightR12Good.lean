/-
  What cartoucheref12.Good answers, of a well formed history.
-/
import Derived.Test.YtdlcimfifkhllaaGreatSCheckRightR12Judge
namespace Go.Proofs.YtdlcimfifkhllaaGreat
set_option maxRecDepth 100000
open Go.RowKit
set_option linter.unusedVariables false
attribute [local go_sem] ba_size
def BA4 (W:World) (g:Nat) (A:List Bool):Prop:=SBox W g 77 (A.map Value.bool).toArray
theorem BA4.cell {W:World} {g:Nat} {A:List Bool} (h:BA4 W g A) (j:Nat) (b:Bool) (hb:A[j]?=some b):W.cell? ⟨g,j,none⟩=some (.bool b):=SBox.cell h j _ (by simp [hb])
theorem BA4.frozen {W:World} {g:Nat} {A:List Bool} (h:BA4 W g A) (j:Nat):W.frozen? ⟨g,j,none⟩=false:=SBox.frozen h j
theorem BA4.set {W:World} {g:Nat} {A:List Bool} (h:BA4 W g A) (j:Nat) (b:Bool):BA4 (W.setCell ⟨g,j,none⟩ (.bool b)) g (A.set j b):=by
 have:=SBox.set h j (.bool b)
 unfold BA4
 rw [List.map_set]
 simpa using this
theorem rd_at (A:List Bool) (hA:A.length=4096) (a b:Nat) (ha:a < 64) (hb:b < 64):A[a*64+b]?=some (rd A a b):=by
 unfold rd
 rw [List.getD_eq_getElem?_getD,List.getElem?_eq_getElem (by omega)]
 rfl
theorem zero4096 (w:World):(zeroValue 77).run Tryz.prog w=.ok (.agg ((List.replicate 4096 false).map Value.bool).toArray) w:=by kernel_rfl
def GdRes (w:World) (P:Prop) (e:Ending) (w':World):Prop:=∃ b:Bool,e=.returned (.bool b)∧(b=true↔P)∧Below w.heap.size w w'
set_option maxHeartbeats 16000000 in
theorem rgood_any (h:List Ev) (v:Value) (w:World) (level:Int) (hT:IsEvs w v h) (hw:WF h) (hl:level=1∨level=2) :
 Calls Tryz.prog 19 #[v,.int .i64 level] w fun e w'=>GdRes w (goodL h level) e w':=by
 obtain ⟨l1,l2,l3,l4⟩:=wf_bounds hw level
 have hlen:=hw.1
 have CB:=fun W (hW:Below w.heap.size w W)=>rbads_any h v W (hT.below hW) (by omega)
 have CA:=fun W (hW:Below w.heap.size w W)=>rall10_any h v W (hT.below hW) (by omega) (wf_keys hw)
 have CS:=fun ve W (hE:IsEds W ve (edgesL h))=>rsteps_any level (edgesL h) ve W hE (by omega)
 have HLW:Hid (low64 (stepsL level (edgesL h))):=steps_low hw level
 have HGL:Hid (goodL h level↔badsL h=[]∧noWalk (stepsL level (edgesL h))):=by show _↔_;unfold goodL;rw [bads_nil]
 obtain ⟨a,cap,rfl,_⟩:=hT.some_at
 obtain ⟨nh,hnh⟩:∃ n,h.length=n:=⟨_,rfl⟩
 cases hb:badsL h with
 | cons b rb =>
   have HNG:Hid (¬ goodL h level):=fun hg=>by have:=(HGL.out.1 hg).1;rw [hb] at this;cases this
   have hbl:(badsL h).length≤256:=by have:=bads_len h;omega
   rw [hb] at CB hbl
   simp only [List.length_cons] at hbl
   rw [hnh] at CB ⊢
   clear hT hnh hb CA CS
   go_enter Tryz.func19,Tryz.ntmps19
   go_wp2_with fail
   refine (CB _ (Below.refl _ _)).mono ?_
   rintro e2 w2 ⟨vb,rfl,b2,o2⟩
   obtain ⟨gb,cb,rfl⟩:=own_shape12 o2
   have j0:(0:Int) < ((rb.length+1:Nat):Int):=by omega
   go_wp2_with fail
   go_ret
   exact ⟨false,rfl,⟨fun e=>(by cases e),fun hg=>absurd hg HNG.out⟩,b2⟩
 | nil =>
   rw [hb] at CB
   have HGN:Hid (goodL h level↔noWalk (stepsL level (edgesL h))):=by show _↔_;rw [HGL.out,hb];simp
   obtain ⟨EL,hEL⟩:∃ x,edgesL h=x:=⟨_,rfl⟩
   rw [hEL] at CA CS l1 l2 HLW HGN
   obtain ⟨s,hs⟩:∃ x,stepsL level EL=x:=⟨_,rfl⟩
   rw [hs] at CS l2 HLW HGN
   rw [hnh] at CB CA ⊢
   clear hT hnh hb hEL hs HGL l4 l3
   go_enter Tryz.func19,Tryz.ntmps19
   go_wp2_with fail
   refine (CB _ (Below.refl _ _)).mono ?_
   rintro e2 w2 ⟨vb,rfl,b2,o2⟩
   obtain ⟨gb,cb,rfl⟩:=own_shape12 o2
   go_wp2_with fail
   refine (CA _ b2).mono ?_
   rintro e3 w3 ⟨ve,rfl,b3,o3⟩
   have B3:=bel_trans b2 b3
   have T3:=IsRec.own (L:=EL) edV_len (by omega) o3 (by omega)
   go_wp2_with fail
   refine (CS _ _ T3).mono ?_
   rintro e4 w4 ⟨vs,Ls,rfl,b4,o4,s4⟩
   have B4:=bel_trans B3 b4
   have T4:=IsSts.own o4 s4 (by rw [s4.1];omega)
   obtain ⟨asl,cs,rfl,i1,i2,i3,HC⟩:=T4.reads
   obtain ⟨n,hn⟩:∃ n,s.length=n:=⟨_,rfl⟩
   have HN:Hid (s.length=n):=hn
   rw [hn] at i1 i3 l2 ⊢
   clear hn T3 o3 o4 s4 T4 CB CA CS
   first
    | (have hz0:Tryz.zeroCells77=((List.replicate 4096 false).map Value.bool).toArray:=by kernel_rfl
       obtain ⟨W5,hW5⟩:∃ W5,W5=w4.alloc (.cells Tryz.zeroCells77 77):=⟨_,rfl⟩
       have A0:BA4 W5 w4.heap.size (List.replicate 4096 false):=by rw [hW5,hz0];exact SBox.new w4 _ _
       have b5:Below w4.heap.size w4 W5:=by rw [hW5];exact (Below.refl _ w4).alloc (Nat.le_refl _) _
       clear hz0
       go_wp2_with fail
       rw [← hW5]
       clear hW5)
    | (go_wp2_with fail
       rw [zero4096]
       simp only [Result.andThen]
       rw [Oper.upon_value]
       obtain ⟨W5,hW5⟩:∃ W5,W5=w4.alloc (.cells ((List.replicate 4096 false).map Value.bool).toArray 77):=⟨_,rfl⟩
       have A0:BA4 W5 w4.heap.size (List.replicate 4096 false):=by rw [hW5];exact SBox.new w4 _ _
       have b5:Below w4.heap.size w4 W5:=by rw [hW5];exact (Below.refl _ w4).alloc (Nat.le_refl _) _
       rw [← hW5]
       clear hW5
       go_wp2_with fail)
   have L0:=LayW.start s
   obtain ⟨g,hg⟩:∃ g,w4.heap.size=g:=⟨_,rfl⟩
   have HG:Hid (w4.heap.size≤g):=by show _≤_;omega
   obtain ⟨Z,hZ⟩:∃ Z,List.replicate 4096 false=Z:=⟨_,rfl⟩
   rw [hZ] at A0 L0
   have HA0:Hid (BA4 W5 g Z):=by show BA4 _ _ _;rw [← hg];exact A0
   have HL0:Hid (LayW s Z 0):=L0
   clear A0 L0 hZ
   rw [hg]
   have HGE:Hid (w4.heap.size=g):=hg
   clear hg
   go_loopw [8] (fun iv wr=>∃ (k:Nat) (A:List Bool),k≤n∧iv=.int .i64 k∧Hid (LayW s A k)∧Below w4.heap.size w4 wr∧BA4 wr g A) (fun iv _=>n - (intOf iv).toNat)
   case atStart=>exact ⟨0,Z,Nat.zero_le _,rfl,HL0,b5,HA0.out⟩
   case round =>
    obtain ⟨k,A,hk,rfl,HY,hbw,hA⟩:=hrel
    by_cases hlt:k < n
    ·have hk1:Hid (k < s.length):=by show k < _;rw [HN.out];exact hlt
     have j0:(k:Int) < (n:Int):=by omega
     have jw:IntKind.i64.wrap ((k:Int)+1)=(k:Int)+1:=by rw [IntKind.wrap_i64];omega
     obtain ⟨bs,os,rfl,u,_,HQ⟩:=HC.out k hk1.out
     obtain ⟨q1,q2⟩:=HLW.out _ (List.getElem_mem hk1.out)
     obtain ⟨a,ea⟩:∃ a:Nat,(s[k]'hk1.out).1=(a:Int):=⟨(s[k]'hk1.out).1.toNat,by omega⟩
     obtain ⟨b,eb⟩:∃ b:Nat,(s[k]'hk1.out).2.1=(b:Int):=⟨(s[k]'hk1.out).2.1.toNat,by omega⟩
     have ha:a < 64:=by omega
     have hb:b < 64:=by omega
     have ja:(a:Int) < 64:=by omega
     have jb:(b:Int) < 64:=by omega
     have HEA:Hid ((s[k]'hk1.out).1=(a:Int)):=ea
     have HEB:Hid ((s[k]'hk1.out).2.1=(b:Int)):=eb
     have HST:Hid (∀ V,Below w4.heap.size w4 V→V.cell? ⟨bs,os+k*3,none⟩=some (.int .i64 (a:Int))∧V.cell? ⟨bs,os+k*3+1,none⟩=some (.int .i64 (b:Int))):=fun V hV=>by
      have:=HQ V hV
      rw [ea,eb] at this
      exact ⟨this.1,this.2.1⟩
     clear ea eb HQ q1 q2
     go_wp2_with fail
     refine wp_region_any (by kernel_rfl) ?_
     change wpAny _ _ _ _ _ _ _ (World.drew _)
     generalize hwd:World.drew _=wd
     have Bd:Below w4.heap.size w4 wd:=by rw [← hwd];exact hbw.drew
     have Ad:BA4 wd g A:=by rw [← hwd];exact hA
     clear hwd
     obtain ⟨y0,y1⟩:=HST.out _ Bd
     have z0:=Ad.cell (a*64+b) (rd A a b) (by rw [rd_at A HY.out.len a b ha hb])
     have z1:=Ad.frozen (a*64+b)
     refine any_of_C (C:=fun U=>U.cell? ⟨bs,os+k*3,none⟩=some (.int .i64 (a:Int))∧U.cell? ⟨bs,os+k*3+1,none⟩=some (.int .i64 (b:Int))) 12 _ _ _ _ ?_
     refine takeCC [12] (i:=0) (v:=.slice (some ⟨bs,os,none⟩) n cs) rfl (by kernel_rfl) (by kernel_rfl) (by kernel_rfl) (by kernel_rfl) (by kernel_rfl) (by kernel_rfl) (fun _ _ _ h=>h) (Or.inl ⟨by kernel_rfl,fun U hU=>by obtain ⟨r0,r1⟩:=hU;go_simp⟩) ?_
     refine takeCC [12] (i:=1) (v:=.int .i64 (k:Int)) rfl (by kernel_rfl) (by kernel_rfl) (by kernel_rfl) (by kernel_rfl) (by kernel_rfl) (by kernel_rfl) (fun _ _ _ h=>h) (Or.inl ⟨by kernel_rfl,fun U hU=>by obtain ⟨r0,r1⟩:=hU;go_simp⟩) ?_
     refine takeCC [12] (i:=2) (v:=.pointer (some ⟨bs,os+k*3,none⟩)) rfl (by kernel_rfl) (by kernel_rfl) (by kernel_rfl) (by kernel_rfl) (by kernel_rfl) (by kernel_rfl) (fun _ _ _ h=>h) (Or.inl ⟨by kernel_rfl,fun U hU=>by obtain ⟨r0,r1⟩:=hU;go_simp⟩) ?_
     refine takeCC [12] (i:=3) (v:=.pointer (some ⟨bs,os+k*3,none⟩)) rfl (by kernel_rfl) (by kernel_rfl) (by kernel_rfl) (by kernel_rfl) (by kernel_rfl) (by kernel_rfl) (fun _ _ _ h=>h) (Or.inl ⟨by kernel_rfl,fun U hU=>by obtain ⟨r0,r1⟩:=hU;go_simp⟩) ?_
     refine takeCC [12] (i:=4) (v:=.int .i64 (a:Int)) rfl (by kernel_rfl) (by kernel_rfl) (by kernel_rfl) (by kernel_rfl) (by kernel_rfl) (by kernel_rfl) (fun _ _ _ h=>h) (Or.inl ⟨by kernel_rfl,fun U hU=>by obtain ⟨r0,r1⟩:=hU;go_simp⟩) ?_
     refine takeCC [12] (i:=5) (v:=.slice (some ⟨bs,os,none⟩) n cs) rfl (by kernel_rfl) (by kernel_rfl) (by kernel_rfl) (by kernel_rfl) (by kernel_rfl) (by kernel_rfl) (fun _ _ _ h=>h) (Or.inl ⟨by kernel_rfl,fun U hU=>by obtain ⟨r0,r1⟩:=hU;go_simp⟩) ?_
     refine takeCC [12] (i:=6) (v:=.int .i64 (k:Int)) rfl (by kernel_rfl) (by kernel_rfl) (by kernel_rfl) (by kernel_rfl) (by kernel_rfl) (by kernel_rfl) (fun _ _ _ h=>h) (Or.inl ⟨by kernel_rfl,fun U hU=>by obtain ⟨r0,r1⟩:=hU;go_simp⟩) ?_
     refine takeCC [12] (i:=7) (v:=.pointer (some ⟨bs,os+k*3,none⟩)) rfl (by kernel_rfl) (by kernel_rfl) (by kernel_rfl) (by kernel_rfl) (by kernel_rfl) (by kernel_rfl) (fun _ _ _ h=>h) (Or.inl ⟨by kernel_rfl,fun U hU=>by obtain ⟨r0,r1⟩:=hU;go_simp⟩) ?_
     refine takeCC [12] (i:=8) (v:=.pointer (some ⟨bs,os+k*3+1,none⟩)) rfl (by kernel_rfl) (by kernel_rfl) (by kernel_rfl) (by kernel_rfl) (by kernel_rfl) (by kernel_rfl) (fun _ _ _ h=>h) (Or.inl ⟨by kernel_rfl,fun U hU=>by obtain ⟨r0,r1⟩:=hU;go_simp⟩) ?_
     refine takeCC [12] (i:=9) (v:=.int .i64 (b:Int)) rfl (by kernel_rfl) (by kernel_rfl) (by kernel_rfl) (by kernel_rfl) (by kernel_rfl) (by kernel_rfl) (fun _ _ _ h=>h) (Or.inl ⟨by kernel_rfl,fun U hU=>by obtain ⟨r0,r1⟩:=hU;go_simp⟩) ?_
     refine takeCC [11,12] (i:=10) (v:=.pointer (some ⟨g,a*64,none⟩)) rfl (by kernel_rfl) (by kernel_rfl) (by kernel_rfl) (by kernel_rfl) (by kernel_rfl) (by kernel_rfl) (fun _ _ _ h=>h) (Or.inl ⟨by kernel_rfl,fun U hU=>by obtain ⟨r0,r1⟩:=hU;go_simp⟩) ?_
     refine takeCC [12] (i:=11) (v:=.pointer (some ⟨g,a*64+b,none⟩)) rfl (by kernel_rfl) (by kernel_rfl) (by kernel_rfl) (by kernel_rfl) (by kernel_rfl) (by kernel_rfl) (fun _ _ _ h=>h) (Or.inl ⟨by kernel_rfl,fun U hU=>by obtain ⟨r0,r1⟩:=hU;go_simp⟩) ?_
     refine lastC (by kernel_rfl) (by kernel_rfl) ⟨y0,y1⟩ (of_decide_eq_true (by kernel_rfl)) ?_
     refine any_seqI [12] [_] _ _ _ rfl (by kernel_rfl) ?_
     go_wp2_with fail
     refine ⟨⟨k+1,A.set (a*64+b) true,by omega,by first | go_num | simp,HY.out.next HLW.out hk1.out a b HEA.out HEB.out,Bd.setCell (p:=⟨g,a*64+b,none⟩) HG.out _,Ad.set (a*64+b) true⟩,by simp [intOf];omega⟩
    ·obtain rfl:k=n:=by omega
     have jq:¬ (k:Int) < (k:Int):=by omega
     have HI0:Hid (InvW s A 0 0 0):=by
      have:=HY.out
      rw [← HN.out] at this
      exact this.done
     clear HY HC
     go_wp2_with fail
     go_loopw [9] (fun iv wr=>∃ (k:Nat) (A:List Bool),k≤64∧iv=.int .i64 k∧Hid (InvW s A k 0 0)∧Below w4.heap.size w4 wr∧BA4 wr g A) (fun iv _=>64 - (intOf iv).toNat)
     case atStart=>exact ⟨0,A,by omega,rfl,HI0,hbw,hA⟩
     case round =>
      obtain ⟨k,A,hk9,rfl,HI,hbq,hA⟩:=hrel
      by_cases hk:k < 64
      ·have j0:(k:Int) < 64:=by omega
       have jw:IntKind.i64.wrap ((k:Int)+1)=(k:Int)+1:=by rw [IntKind.wrap_i64];omega
       go_wp2_with fail
       go_loopw [10] (fun iv wr=>∃ (a:Nat) (A:List Bool),a≤64∧iv=.int .i64 a∧Hid (InvW s A k a 0)∧Below w4.heap.size w4 wr∧BA4 wr g A) (fun iv _=>64 - (intOf iv).toNat)
       case atStart=>exact ⟨0,A,by omega,rfl,HI,hbq,hA⟩
       case round =>
        obtain ⟨a,A,ha9,rfl,HI,hbq,hA⟩:=hrel
        by_cases ha:a < 64
        ·have j1:(a:Int) < 64:=by omega
         have jwa:IntKind.i64.wrap ((a:Int)+1)=(a:Int)+1:=by rw [IntKind.wrap_i64];omega
         go_wp2_with fail
         go_loopw [11] (fun iv wr=>∃ (b:Nat) (A:List Bool),b≤64∧iv=.int .i64 b∧Hid (InvW s A k a b)∧Below w4.heap.size w4 wr∧BA4 wr g A) (fun iv _=>64 - (intOf iv).toNat)
         case atStart=>exact ⟨0,A,by omega,rfl,HI,hbq,hA⟩
         case round =>
          obtain ⟨b,A,hb9,rfl,HI,hbq,hA⟩:=hrel
          by_cases hb:b < 64
          ·have j2:(b:Int) < 64:=by omega
           have jwb:IntKind.i64.wrap ((b:Int)+1)=(b:Int)+1:=by rw [IntKind.wrap_i64];omega
           cases X0:rd A a b with
           | true =>
             go_wp2_with fail
             refine wp_region_any (by kernel_rfl) ?_
             change wpAny _ _ _ _ _ _ _ (World.drew _)
             generalize hwd:World.drew _=wd
             have Bd:Below w4.heap.size w4 wd:=by rw [← hwd];exact hbq.drew
             have Ad:BA4 wd g A:=by rw [← hwd];exact hA
             clear hwd
             have z0:=Ad.cell (a*64+b) true (by rw [rd_at A HI.out.len a b ha hb,X0])
             have z1:=Ad.frozen (a*64+b)
             refine any_of_C (C:=fun U=>U.cell? ⟨g,a*64+b,none⟩=some (.bool true)∧True) 23 _ _ _ _ ?_
             refine takeCC [23] (i:=0) (v:=.int .i64 (a:Int)) rfl (by kernel_rfl) (by kernel_rfl) (by kernel_rfl) (by kernel_rfl) (by kernel_rfl) (by kernel_rfl) (fun _ _ _ h=>h) (Or.inl ⟨by kernel_rfl,fun U hU=>by obtain ⟨r0,_⟩:=hU;go_simp⟩) ?_
             refine takeCC [23] (i:=1) (v:=.int .i64 (b:Int)) rfl (by kernel_rfl) (by kernel_rfl) (by kernel_rfl) (by kernel_rfl) (by kernel_rfl) (by kernel_rfl) (fun _ _ _ h=>h) (Or.inl ⟨by kernel_rfl,fun U hU=>by obtain ⟨r0,_⟩:=hU;go_simp⟩) ?_
             refine takeCC [23] (i:=2) (v:=.int .i64 (a:Int)) rfl (by kernel_rfl) (by kernel_rfl) (by kernel_rfl) (by kernel_rfl) (by kernel_rfl) (by kernel_rfl) (fun _ _ _ h=>h) (Or.inl ⟨by kernel_rfl,fun U hU=>by obtain ⟨r0,_⟩:=hU;go_simp⟩) ?_
             refine takeCC [23] (i:=3) (v:=.int .i64 (b:Int)) rfl (by kernel_rfl) (by kernel_rfl) (by kernel_rfl) (by kernel_rfl) (by kernel_rfl) (by kernel_rfl) (fun _ _ _ h=>h) (Or.inl ⟨by kernel_rfl,fun U hU=>by obtain ⟨r0,_⟩:=hU;go_simp⟩) ?_
             refine takeCC [23] (i:=4) (v:=.pointer (some ⟨g,a*64,none⟩)) rfl (by kernel_rfl) (by kernel_rfl) (by kernel_rfl) (by kernel_rfl) (by kernel_rfl) (by kernel_rfl) (fun _ _ _ h=>h) (Or.inl ⟨by kernel_rfl,fun U hU=>by obtain ⟨r0,_⟩:=hU;go_simp⟩) ?_
             refine takeCC [23] (i:=5) (v:=.pointer (some ⟨g,a*64+b,none⟩)) rfl (by kernel_rfl) (by kernel_rfl) (by kernel_rfl) (by kernel_rfl) (by kernel_rfl) (by kernel_rfl) (fun _ _ _ h=>h) (Or.inl ⟨by kernel_rfl,fun U hU=>by obtain ⟨r0,_⟩:=hU;go_simp⟩) ?_
             refine takeCC [23] (i:=6) (v:=.bool true) rfl (by kernel_rfl) (by kernel_rfl) (by kernel_rfl) (by kernel_rfl) (by kernel_rfl) (by kernel_rfl) (fun _ _ _ h=>h) (Or.inl ⟨by kernel_rfl,fun U hU=>by obtain ⟨r0,_⟩:=hU;go_simp⟩) ?_
             refine takeCC [23] (i:=7) (v:=.bool true) rfl (by kernel_rfl) (by kernel_rfl) (by kernel_rfl) (by kernel_rfl) (by kernel_rfl) (by kernel_rfl) (fun _ _ _ h=>h) (Or.inl ⟨by kernel_rfl,fun U hU=>by obtain ⟨r0,_⟩:=hU;go_simp⟩) ?_
             refine takeCC [23] (i:=8) (v:=undef) rfl (by kernel_rfl) (by kernel_rfl) (by kernel_rfl) (by kernel_rfl) (by kernel_rfl) (by kernel_rfl) (fun _ _ _ h=>h) (Or.inr ⟨by kernel_rfl,rfl⟩) ?_
             refine takeCC [23] (i:=9) (v:=undef) rfl (by kernel_rfl) (by kernel_rfl) (by kernel_rfl) (by kernel_rfl) (by kernel_rfl) (by kernel_rfl) (fun _ _ _ h=>h) (Or.inr ⟨by kernel_rfl,rfl⟩) ?_
             refine takeCC [23] (i:=10) (v:=undef) rfl (by kernel_rfl) (by kernel_rfl) (by kernel_rfl) (by kernel_rfl) (by kernel_rfl) (by kernel_rfl) (fun _ _ _ h=>h) (Or.inr ⟨by kernel_rfl,rfl⟩) ?_
             refine takeCC [23] (i:=11) (v:=undef) rfl (by kernel_rfl) (by kernel_rfl) (by kernel_rfl) (by kernel_rfl) (by kernel_rfl) (by kernel_rfl) (fun _ _ _ h=>h) (Or.inr ⟨by kernel_rfl,rfl⟩) ?_
             refine takeCC [23] (i:=12) (v:=undef) rfl (by kernel_rfl) (by kernel_rfl) (by kernel_rfl) (by kernel_rfl) (by kernel_rfl) (by kernel_rfl) (fun _ _ _ h=>h) (Or.inr ⟨by kernel_rfl,rfl⟩) ?_
             refine takeCC [23] (i:=13) (v:=undef) rfl (by kernel_rfl) (by kernel_rfl) (by kernel_rfl) (by kernel_rfl) (by kernel_rfl) (by kernel_rfl) (fun _ _ _ h=>h) (Or.inr ⟨by kernel_rfl,rfl⟩) ?_
             refine takeCC [23] (i:=14) (v:=undef) rfl (by kernel_rfl) (by kernel_rfl) (by kernel_rfl) (by kernel_rfl) (by kernel_rfl) (by kernel_rfl) (fun _ _ _ h=>h) (Or.inr ⟨by kernel_rfl,rfl⟩) ?_
             refine takeCC [23] (i:=15) (v:=undef) rfl (by kernel_rfl) (by kernel_rfl) (by kernel_rfl) (by kernel_rfl) (by kernel_rfl) (by kernel_rfl) (fun _ _ _ h=>h) (Or.inr ⟨by kernel_rfl,rfl⟩) ?_
             refine takeCC [23] (i:=16) (v:=undef) rfl (by kernel_rfl) (by kernel_rfl) (by kernel_rfl) (by kernel_rfl) (by kernel_rfl) (by kernel_rfl) (fun _ _ _ h=>h) (Or.inr ⟨by kernel_rfl,rfl⟩) ?_
             refine takeCC [23] (i:=17) (v:=undef) rfl (by kernel_rfl) (by kernel_rfl) (by kernel_rfl) (by kernel_rfl) (by kernel_rfl) (by kernel_rfl) (fun _ _ _ h=>h) (Or.inr ⟨by kernel_rfl,rfl⟩) ?_
             refine takeCC [23] (i:=18) (v:=undef) rfl (by kernel_rfl) (by kernel_rfl) (by kernel_rfl) (by kernel_rfl) (by kernel_rfl) (by kernel_rfl) (fun _ _ _ h=>h) (Or.inr ⟨by kernel_rfl,rfl⟩) ?_
             refine takeCC [23] (i:=19) (v:=undef) rfl (by kernel_rfl) (by kernel_rfl) (by kernel_rfl) (by kernel_rfl) (by kernel_rfl) (by kernel_rfl) (fun _ _ _ h=>h) (Or.inr ⟨by kernel_rfl,rfl⟩) ?_
             refine takeCC [23] (i:=20) (v:=.bool true) rfl (by kernel_rfl) (by kernel_rfl) (by kernel_rfl) (by kernel_rfl) (by kernel_rfl) (by kernel_rfl) (fun _ _ _ h=>h) (Or.inl ⟨by kernel_rfl,fun U hU=>by obtain ⟨r0,_⟩:=hU;go_simp⟩) ?_
             refine takeCC [22,23] (i:=21) (v:=.pointer (some ⟨g,a*64,none⟩)) rfl (by kernel_rfl) (by kernel_rfl) (by kernel_rfl) (by kernel_rfl) (by kernel_rfl) (by kernel_rfl) (fun _ _ _ h=>h) (Or.inl ⟨by kernel_rfl,fun U hU=>by obtain ⟨r0,_⟩:=hU;go_simp⟩) ?_
             refine takeCC [23] (i:=22) (v:=.pointer (some ⟨g,a*64+b,none⟩)) rfl (by kernel_rfl) (by kernel_rfl) (by kernel_rfl) (by kernel_rfl) (by kernel_rfl) (by kernel_rfl) (fun _ _ _ h=>h) (Or.inl ⟨by kernel_rfl,fun U hU=>by obtain ⟨r0,_⟩:=hU;go_simp⟩) ?_
             refine lastC (by kernel_rfl) (by kernel_rfl) ⟨z0,trivial⟩ (of_decide_eq_true (by kernel_rfl)) ?_
             refine any_seqI [23] [_] _ _ _ rfl (by kernel_rfl) ?_
             go_wp2_with fail
             have HS:=HI.out.step hk ha hb
             rw [X0] at HS
             change InvW s (A.set (a*64+b) true) k a (b+1) at HS
             refine ⟨⟨b+1,_,by omega,by first | go_num | simp,HS,Bd.setCell (p:=⟨g,a*64+b,none⟩) HG.out _,Ad.set (a*64+b) _⟩,by simp [intOf];omega⟩
           | false =>
             cases X1:rd A a k with
             | false =>
               go_wp2_with fail
               refine wp_region_any (by kernel_rfl) ?_
               change wpAny _ _ _ _ _ _ _ (World.drew _)
               generalize hwd:World.drew _=wd
               have Bd:Below w4.heap.size w4 wd:=by rw [← hwd];exact hbq.drew
               have Ad:BA4 wd g A:=by rw [← hwd];exact hA
               clear hwd
               have z0:=Ad.cell (a*64+b) false (by rw [rd_at A HI.out.len a b ha hb,X0])
               have z1:=Ad.frozen (a*64+b)
               have z2:=Ad.cell (a*64+k) false (by rw [rd_at A HI.out.len a k ha hk,X1])
               refine any_of_C (C:=fun U=>U.cell? ⟨g,a*64+b,none⟩=some (.bool false)∧U.cell? ⟨g,a*64+k,none⟩=some (.bool false)) 23 _ _ _ _ ?_
               refine takeCC [23] (i:=0) (v:=.int .i64 (a:Int)) rfl (by kernel_rfl) (by kernel_rfl) (by kernel_rfl) (by kernel_rfl) (by kernel_rfl) (by kernel_rfl) (fun _ _ _ h=>h) (Or.inl ⟨by kernel_rfl,fun U hU=>by obtain ⟨r0,r1⟩:=hU;go_simp⟩) ?_
               refine takeCC [23] (i:=1) (v:=.int .i64 (b:Int)) rfl (by kernel_rfl) (by kernel_rfl) (by kernel_rfl) (by kernel_rfl) (by kernel_rfl) (by kernel_rfl) (fun _ _ _ h=>h) (Or.inl ⟨by kernel_rfl,fun U hU=>by obtain ⟨r0,r1⟩:=hU;go_simp⟩) ?_
               refine takeCC [23] (i:=2) (v:=.int .i64 (a:Int)) rfl (by kernel_rfl) (by kernel_rfl) (by kernel_rfl) (by kernel_rfl) (by kernel_rfl) (by kernel_rfl) (fun _ _ _ h=>h) (Or.inl ⟨by kernel_rfl,fun U hU=>by obtain ⟨r0,r1⟩:=hU;go_simp⟩) ?_
               refine takeCC [23] (i:=3) (v:=.int .i64 (b:Int)) rfl (by kernel_rfl) (by kernel_rfl) (by kernel_rfl) (by kernel_rfl) (by kernel_rfl) (by kernel_rfl) (fun _ _ _ h=>h) (Or.inl ⟨by kernel_rfl,fun U hU=>by obtain ⟨r0,r1⟩:=hU;go_simp⟩) ?_
               refine takeCC [23] (i:=4) (v:=.pointer (some ⟨g,a*64,none⟩)) rfl (by kernel_rfl) (by kernel_rfl) (by kernel_rfl) (by kernel_rfl) (by kernel_rfl) (by kernel_rfl) (fun _ _ _ h=>h) (Or.inl ⟨by kernel_rfl,fun U hU=>by obtain ⟨r0,r1⟩:=hU;go_simp⟩) ?_
               refine takeCC [23] (i:=5) (v:=.pointer (some ⟨g,a*64+b,none⟩)) rfl (by kernel_rfl) (by kernel_rfl) (by kernel_rfl) (by kernel_rfl) (by kernel_rfl) (by kernel_rfl) (fun _ _ _ h=>h) (Or.inl ⟨by kernel_rfl,fun U hU=>by obtain ⟨r0,r1⟩:=hU;go_simp⟩) ?_
               refine takeCC [23] (i:=6) (v:=.bool false) rfl (by kernel_rfl) (by kernel_rfl) (by kernel_rfl) (by kernel_rfl) (by kernel_rfl) (by kernel_rfl) (fun _ _ _ h=>h) (Or.inl ⟨by kernel_rfl,fun U hU=>by obtain ⟨r0,r1⟩:=hU;go_simp⟩) ?_
               refine takeCC [23] (i:=7) (v:=.bool false) rfl (by kernel_rfl) (by kernel_rfl) (by kernel_rfl) (by kernel_rfl) (by kernel_rfl) (by kernel_rfl) (fun _ _ _ h=>h) (Or.inl ⟨by kernel_rfl,fun U hU=>by obtain ⟨r0,r1⟩:=hU;go_simp⟩) ?_
               refine takeCC [23] (i:=8) (v:=.int .i64 (a:Int)) rfl (by kernel_rfl) (by kernel_rfl) (by kernel_rfl) (by kernel_rfl) (by kernel_rfl) (by kernel_rfl) (fun _ _ _ h=>h) (Or.inl ⟨by kernel_rfl,fun U hU=>by obtain ⟨r0,r1⟩:=hU;go_simp⟩) ?_
               refine takeCC [23] (i:=9) (v:=.int .i64 (k:Int)) rfl (by kernel_rfl) (by kernel_rfl) (by kernel_rfl) (by kernel_rfl) (by kernel_rfl) (by kernel_rfl) (fun _ _ _ h=>h) (Or.inl ⟨by kernel_rfl,fun U hU=>by obtain ⟨r0,r1⟩:=hU;go_simp⟩) ?_
               refine takeCC [23] (i:=10) (v:=.pointer (some ⟨g,a*64,none⟩)) rfl (by kernel_rfl) (by kernel_rfl) (by kernel_rfl) (by kernel_rfl) (by kernel_rfl) (by kernel_rfl) (fun _ _ _ h=>h) (Or.inl ⟨by kernel_rfl,fun U hU=>by obtain ⟨r0,r1⟩:=hU;go_simp⟩) ?_
               refine takeCC [23] (i:=11) (v:=.pointer (some ⟨g,a*64+k,none⟩)) rfl (by kernel_rfl) (by kernel_rfl) (by kernel_rfl) (by kernel_rfl) (by kernel_rfl) (by kernel_rfl) (fun _ _ _ h=>h) (Or.inl ⟨by kernel_rfl,fun U hU=>by obtain ⟨r0,r1⟩:=hU;go_simp⟩) ?_
               refine takeCC [23] (i:=12) (v:=.bool false) rfl (by kernel_rfl) (by kernel_rfl) (by kernel_rfl) (by kernel_rfl) (by kernel_rfl) (by kernel_rfl) (fun _ _ _ h=>h) (Or.inl ⟨by kernel_rfl,fun U hU=>by obtain ⟨r0,r1⟩:=hU;go_simp⟩) ?_
               refine takeCC [23] (i:=13) (v:=.bool false) rfl (by kernel_rfl) (by kernel_rfl) (by kernel_rfl) (by kernel_rfl) (by kernel_rfl) (by kernel_rfl) (fun _ _ _ h=>h) (Or.inl ⟨by kernel_rfl,fun U hU=>by obtain ⟨r0,r1⟩:=hU;go_simp⟩) ?_
               refine takeCC [23] (i:=14) (v:=undef) rfl (by kernel_rfl) (by kernel_rfl) (by kernel_rfl) (by kernel_rfl) (by kernel_rfl) (by kernel_rfl) (fun _ _ _ h=>h) (Or.inr ⟨by kernel_rfl,rfl⟩) ?_
               refine takeCC [23] (i:=15) (v:=undef) rfl (by kernel_rfl) (by kernel_rfl) (by kernel_rfl) (by kernel_rfl) (by kernel_rfl) (by kernel_rfl) (fun _ _ _ h=>h) (Or.inr ⟨by kernel_rfl,rfl⟩) ?_
               refine takeCC [23] (i:=16) (v:=undef) rfl (by kernel_rfl) (by kernel_rfl) (by kernel_rfl) (by kernel_rfl) (by kernel_rfl) (by kernel_rfl) (fun _ _ _ h=>h) (Or.inr ⟨by kernel_rfl,rfl⟩) ?_
               refine takeCC [23] (i:=17) (v:=undef) rfl (by kernel_rfl) (by kernel_rfl) (by kernel_rfl) (by kernel_rfl) (by kernel_rfl) (by kernel_rfl) (fun _ _ _ h=>h) (Or.inr ⟨by kernel_rfl,rfl⟩) ?_
               refine takeCC [23] (i:=18) (v:=undef) rfl (by kernel_rfl) (by kernel_rfl) (by kernel_rfl) (by kernel_rfl) (by kernel_rfl) (by kernel_rfl) (fun _ _ _ h=>h) (Or.inr ⟨by kernel_rfl,rfl⟩) ?_
               refine takeCC [23] (i:=19) (v:=.bool false) rfl (by kernel_rfl) (by kernel_rfl) (by kernel_rfl) (by kernel_rfl) (by kernel_rfl) (by kernel_rfl) (fun _ _ _ h=>h) (Or.inl ⟨by kernel_rfl,fun U hU=>by obtain ⟨r0,r1⟩:=hU;go_simp⟩) ?_
               refine takeCC [23] (i:=20) (v:=.bool false) rfl (by kernel_rfl) (by kernel_rfl) (by kernel_rfl) (by kernel_rfl) (by kernel_rfl) (by kernel_rfl) (fun _ _ _ h=>h) (Or.inl ⟨by kernel_rfl,fun U hU=>by obtain ⟨r0,r1⟩:=hU;go_simp⟩) ?_
               refine takeCC [22,23] (i:=21) (v:=.pointer (some ⟨g,a*64,none⟩)) rfl (by kernel_rfl) (by kernel_rfl) (by kernel_rfl) (by kernel_rfl) (by kernel_rfl) (by kernel_rfl) (fun _ _ _ h=>h) (Or.inl ⟨by kernel_rfl,fun U hU=>by obtain ⟨r0,r1⟩:=hU;go_simp⟩) ?_
               refine takeCC [23] (i:=22) (v:=.pointer (some ⟨g,a*64+b,none⟩)) rfl (by kernel_rfl) (by kernel_rfl) (by kernel_rfl) (by kernel_rfl) (by kernel_rfl) (by kernel_rfl) (fun _ _ _ h=>h) (Or.inl ⟨by kernel_rfl,fun U hU=>by obtain ⟨r0,r1⟩:=hU;go_simp⟩) ?_
               refine lastC (by kernel_rfl) (by kernel_rfl) ⟨z0,z2⟩ (of_decide_eq_true (by kernel_rfl)) ?_
               refine any_seqI [23] [_] _ _ _ rfl (by kernel_rfl) ?_
               go_wp2_with fail
               have HS:=HI.out.step hk ha hb
               rw [X0,X1] at HS
               change InvW s (A.set (a*64+b) false) k a (b+1) at HS
               refine ⟨⟨b+1,_,by omega,by first | go_num | simp,HS,Bd.setCell (p:=⟨g,a*64+b,none⟩) HG.out _,Ad.set (a*64+b) _⟩,by simp [intOf];omega⟩
             | true =>
               cases X2:rd A k b with
               | false =>
                 go_wp2_with fail
                 refine wp_region_any (by kernel_rfl) ?_
                 change wpAny _ _ _ _ _ _ _ (World.drew _)
                 generalize hwd:World.drew _=wd
                 have Bd:Below w4.heap.size w4 wd:=by rw [← hwd];exact hbq.drew
                 have Ad:BA4 wd g A:=by rw [← hwd];exact hA
                 clear hwd
                 have z0:=Ad.cell (a*64+b) false (by rw [rd_at A HI.out.len a b ha hb,X0])
                 have z1:=Ad.frozen (a*64+b)
                 have z2:=Ad.cell (a*64+k) true (by rw [rd_at A HI.out.len a k ha hk,X1])
                 have z3:=Ad.cell (k*64+b) false (by rw [rd_at A HI.out.len k b hk hb,X2])
                 refine any_of_C (C:=fun U=>U.cell? ⟨g,a*64+b,none⟩=some (.bool false)∧U.cell? ⟨g,a*64+k,none⟩=some (.bool true)∧U.cell? ⟨g,k*64+b,none⟩=some (.bool false)) 23 _ _ _ _ ?_
                 refine takeCC [23] (i:=0) (v:=.int .i64 (a:Int)) rfl (by kernel_rfl) (by kernel_rfl) (by kernel_rfl) (by kernel_rfl) (by kernel_rfl) (by kernel_rfl) (fun _ _ _ h=>h) (Or.inl ⟨by kernel_rfl,fun U hU=>by obtain ⟨r0,r1,r2⟩:=hU;go_simp⟩) ?_
                 refine takeCC [23] (i:=1) (v:=.int .i64 (b:Int)) rfl (by kernel_rfl) (by kernel_rfl) (by kernel_rfl) (by kernel_rfl) (by kernel_rfl) (by kernel_rfl) (fun _ _ _ h=>h) (Or.inl ⟨by kernel_rfl,fun U hU=>by obtain ⟨r0,r1,r2⟩:=hU;go_simp⟩) ?_
                 refine takeCC [23] (i:=2) (v:=.int .i64 (a:Int)) rfl (by kernel_rfl) (by kernel_rfl) (by kernel_rfl) (by kernel_rfl) (by kernel_rfl) (by kernel_rfl) (fun _ _ _ h=>h) (Or.inl ⟨by kernel_rfl,fun U hU=>by obtain ⟨r0,r1,r2⟩:=hU;go_simp⟩) ?_
                 refine takeCC [23] (i:=3) (v:=.int .i64 (b:Int)) rfl (by kernel_rfl) (by kernel_rfl) (by kernel_rfl) (by kernel_rfl) (by kernel_rfl) (by kernel_rfl) (fun _ _ _ h=>h) (Or.inl ⟨by kernel_rfl,fun U hU=>by obtain ⟨r0,r1,r2⟩:=hU;go_simp⟩) ?_
                 refine takeCC [23] (i:=4) (v:=.pointer (some ⟨g,a*64,none⟩)) rfl (by kernel_rfl) (by kernel_rfl) (by kernel_rfl) (by kernel_rfl) (by kernel_rfl) (by kernel_rfl) (fun _ _ _ h=>h) (Or.inl ⟨by kernel_rfl,fun U hU=>by obtain ⟨r0,r1,r2⟩:=hU;go_simp⟩) ?_
                 refine takeCC [23] (i:=5) (v:=.pointer (some ⟨g,a*64+b,none⟩)) rfl (by kernel_rfl) (by kernel_rfl) (by kernel_rfl) (by kernel_rfl) (by kernel_rfl) (by kernel_rfl) (fun _ _ _ h=>h) (Or.inl ⟨by kernel_rfl,fun U hU=>by obtain ⟨r0,r1,r2⟩:=hU;go_simp⟩) ?_
                 refine takeCC [23] (i:=6) (v:=.bool false) rfl (by kernel_rfl) (by kernel_rfl) (by kernel_rfl) (by kernel_rfl) (by kernel_rfl) (by kernel_rfl) (fun _ _ _ h=>h) (Or.inl ⟨by kernel_rfl,fun U hU=>by obtain ⟨r0,r1,r2⟩:=hU;go_simp⟩) ?_
                 refine takeCC [23] (i:=7) (v:=.bool false) rfl (by kernel_rfl) (by kernel_rfl) (by kernel_rfl) (by kernel_rfl) (by kernel_rfl) (by kernel_rfl) (fun _ _ _ h=>h) (Or.inl ⟨by kernel_rfl,fun U hU=>by obtain ⟨r0,r1,r2⟩:=hU;go_simp⟩) ?_
                 refine takeCC [23] (i:=8) (v:=.int .i64 (a:Int)) rfl (by kernel_rfl) (by kernel_rfl) (by kernel_rfl) (by kernel_rfl) (by kernel_rfl) (by kernel_rfl) (fun _ _ _ h=>h) (Or.inl ⟨by kernel_rfl,fun U hU=>by obtain ⟨r0,r1,r2⟩:=hU;go_simp⟩) ?_
                 refine takeCC [23] (i:=9) (v:=.int .i64 (k:Int)) rfl (by kernel_rfl) (by kernel_rfl) (by kernel_rfl) (by kernel_rfl) (by kernel_rfl) (by kernel_rfl) (fun _ _ _ h=>h) (Or.inl ⟨by kernel_rfl,fun U hU=>by obtain ⟨r0,r1,r2⟩:=hU;go_simp⟩) ?_
                 refine takeCC [23] (i:=10) (v:=.pointer (some ⟨g,a*64,none⟩)) rfl (by kernel_rfl) (by kernel_rfl) (by kernel_rfl) (by kernel_rfl) (by kernel_rfl) (by kernel_rfl) (fun _ _ _ h=>h) (Or.inl ⟨by kernel_rfl,fun U hU=>by obtain ⟨r0,r1,r2⟩:=hU;go_simp⟩) ?_
                 refine takeCC [23] (i:=11) (v:=.pointer (some ⟨g,a*64+k,none⟩)) rfl (by kernel_rfl) (by kernel_rfl) (by kernel_rfl) (by kernel_rfl) (by kernel_rfl) (by kernel_rfl) (fun _ _ _ h=>h) (Or.inl ⟨by kernel_rfl,fun U hU=>by obtain ⟨r0,r1,r2⟩:=hU;go_simp⟩) ?_
                 refine takeCC [23] (i:=12) (v:=.bool true) rfl (by kernel_rfl) (by kernel_rfl) (by kernel_rfl) (by kernel_rfl) (by kernel_rfl) (by kernel_rfl) (fun _ _ _ h=>h) (Or.inl ⟨by kernel_rfl,fun U hU=>by obtain ⟨r0,r1,r2⟩:=hU;go_simp⟩) ?_
                 refine takeCC [23] (i:=13) (v:=.bool true) rfl (by kernel_rfl) (by kernel_rfl) (by kernel_rfl) (by kernel_rfl) (by kernel_rfl) (by kernel_rfl) (fun _ _ _ h=>h) (Or.inl ⟨by kernel_rfl,fun U hU=>by obtain ⟨r0,r1,r2⟩:=hU;go_simp⟩) ?_
                 refine takeCC [23] (i:=14) (v:=.int .i64 (k:Int)) rfl (by kernel_rfl) (by kernel_rfl) (by kernel_rfl) (by kernel_rfl) (by kernel_rfl) (by kernel_rfl) (fun _ _ _ h=>h) (Or.inl ⟨by kernel_rfl,fun U hU=>by obtain ⟨r0,r1,r2⟩:=hU;go_simp⟩) ?_
                 refine takeCC [23] (i:=15) (v:=.int .i64 (b:Int)) rfl (by kernel_rfl) (by kernel_rfl) (by kernel_rfl) (by kernel_rfl) (by kernel_rfl) (by kernel_rfl) (fun _ _ _ h=>h) (Or.inl ⟨by kernel_rfl,fun U hU=>by obtain ⟨r0,r1,r2⟩:=hU;go_simp⟩) ?_
                 refine takeCC [23] (i:=16) (v:=.pointer (some ⟨g,k*64,none⟩)) rfl (by kernel_rfl) (by kernel_rfl) (by kernel_rfl) (by kernel_rfl) (by kernel_rfl) (by kernel_rfl) (fun _ _ _ h=>h) (Or.inl ⟨by kernel_rfl,fun U hU=>by obtain ⟨r0,r1,r2⟩:=hU;go_simp⟩) ?_
                 refine takeCC [23] (i:=17) (v:=.pointer (some ⟨g,k*64+b,none⟩)) rfl (by kernel_rfl) (by kernel_rfl) (by kernel_rfl) (by kernel_rfl) (by kernel_rfl) (by kernel_rfl) (fun _ _ _ h=>h) (Or.inl ⟨by kernel_rfl,fun U hU=>by obtain ⟨r0,r1,r2⟩:=hU;go_simp⟩) ?_
                 refine takeCC [23] (i:=18) (v:=.bool false) rfl (by kernel_rfl) (by kernel_rfl) (by kernel_rfl) (by kernel_rfl) (by kernel_rfl) (by kernel_rfl) (fun _ _ _ h=>h) (Or.inl ⟨by kernel_rfl,fun U hU=>by obtain ⟨r0,r1,r2⟩:=hU;go_simp⟩) ?_
                 refine takeCC [23] (i:=19) (v:=.bool false) rfl (by kernel_rfl) (by kernel_rfl) (by kernel_rfl) (by kernel_rfl) (by kernel_rfl) (by kernel_rfl) (fun _ _ _ h=>h) (Or.inl ⟨by kernel_rfl,fun U hU=>by obtain ⟨r0,r1,r2⟩:=hU;go_simp⟩) ?_
                 refine takeCC [23] (i:=20) (v:=.bool false) rfl (by kernel_rfl) (by kernel_rfl) (by kernel_rfl) (by kernel_rfl) (by kernel_rfl) (by kernel_rfl) (fun _ _ _ h=>h) (Or.inl ⟨by kernel_rfl,fun U hU=>by obtain ⟨r0,r1,r2⟩:=hU;go_simp⟩) ?_
                 refine takeCC [22,23] (i:=21) (v:=.pointer (some ⟨g,a*64,none⟩)) rfl (by kernel_rfl) (by kernel_rfl) (by kernel_rfl) (by kernel_rfl) (by kernel_rfl) (by kernel_rfl) (fun _ _ _ h=>h) (Or.inl ⟨by kernel_rfl,fun U hU=>by obtain ⟨r0,r1,r2⟩:=hU;go_simp⟩) ?_
                 refine takeCC [23] (i:=22) (v:=.pointer (some ⟨g,a*64+b,none⟩)) rfl (by kernel_rfl) (by kernel_rfl) (by kernel_rfl) (by kernel_rfl) (by kernel_rfl) (by kernel_rfl) (fun _ _ _ h=>h) (Or.inl ⟨by kernel_rfl,fun U hU=>by obtain ⟨r0,r1,r2⟩:=hU;go_simp⟩) ?_
                 refine lastC (by kernel_rfl) (by kernel_rfl) ⟨z0,z2,z3⟩ (of_decide_eq_true (by kernel_rfl)) ?_
                 refine any_seqI [23] [_] _ _ _ rfl (by kernel_rfl) ?_
                 go_wp2_with fail
                 have HS:=HI.out.step hk ha hb
                 rw [X0,X1,X2] at HS
                 change InvW s (A.set (a*64+b) false) k a (b+1) at HS
                 refine ⟨⟨b+1,_,by omega,by first | go_num | simp,HS,Bd.setCell (p:=⟨g,a*64+b,none⟩) HG.out _,Ad.set (a*64+b) _⟩,by simp [intOf];omega⟩
               | true =>
                 go_wp2_with fail
                 refine wp_region_any (by kernel_rfl) ?_
                 change wpAny _ _ _ _ _ _ _ (World.drew _)
                 generalize hwd:World.drew _=wd
                 have Bd:Below w4.heap.size w4 wd:=by rw [← hwd];exact hbq.drew
                 have Ad:BA4 wd g A:=by rw [← hwd];exact hA
                 clear hwd
                 have z0:=Ad.cell (a*64+b) false (by rw [rd_at A HI.out.len a b ha hb,X0])
                 have z1:=Ad.frozen (a*64+b)
                 have z2:=Ad.cell (a*64+k) true (by rw [rd_at A HI.out.len a k ha hk,X1])
                 have z3:=Ad.cell (k*64+b) true (by rw [rd_at A HI.out.len k b hk hb,X2])
                 refine any_of_C (C:=fun U=>U.cell? ⟨g,a*64+b,none⟩=some (.bool false)∧U.cell? ⟨g,a*64+k,none⟩=some (.bool true)∧U.cell? ⟨g,k*64+b,none⟩=some (.bool true)) 23 _ _ _ _ ?_
                 refine takeCC [23] (i:=0) (v:=.int .i64 (a:Int)) rfl (by kernel_rfl) (by kernel_rfl) (by kernel_rfl) (by kernel_rfl) (by kernel_rfl) (by kernel_rfl) (fun _ _ _ h=>h) (Or.inl ⟨by kernel_rfl,fun U hU=>by obtain ⟨r0,r1,r2⟩:=hU;go_simp⟩) ?_
                 refine takeCC [23] (i:=1) (v:=.int .i64 (b:Int)) rfl (by kernel_rfl) (by kernel_rfl) (by kernel_rfl) (by kernel_rfl) (by kernel_rfl) (by kernel_rfl) (fun _ _ _ h=>h) (Or.inl ⟨by kernel_rfl,fun U hU=>by obtain ⟨r0,r1,r2⟩:=hU;go_simp⟩) ?_
                 refine takeCC [23] (i:=2) (v:=.int .i64 (a:Int)) rfl (by kernel_rfl) (by kernel_rfl) (by kernel_rfl) (by kernel_rfl) (by kernel_rfl) (by kernel_rfl) (fun _ _ _ h=>h) (Or.inl ⟨by kernel_rfl,fun U hU=>by obtain ⟨r0,r1,r2⟩:=hU;go_simp⟩) ?_
                 refine takeCC [23] (i:=3) (v:=.int .i64 (b:Int)) rfl (by kernel_rfl) (by kernel_rfl) (by kernel_rfl) (by kernel_rfl) (by kernel_rfl) (by kernel_rfl) (fun _ _ _ h=>h) (Or.inl ⟨by kernel_rfl,fun U hU=>by obtain ⟨r0,r1,r2⟩:=hU;go_simp⟩) ?_
                 refine takeCC [23] (i:=4) (v:=.pointer (some ⟨g,a*64,none⟩)) rfl (by kernel_rfl) (by kernel_rfl) (by kernel_rfl) (by kernel_rfl) (by kernel_rfl) (by kernel_rfl) (fun _ _ _ h=>h) (Or.inl ⟨by kernel_rfl,fun U hU=>by obtain ⟨r0,r1,r2⟩:=hU;go_simp⟩) ?_
                 refine takeCC [23] (i:=5) (v:=.pointer (some ⟨g,a*64+b,none⟩)) rfl (by kernel_rfl) (by kernel_rfl) (by kernel_rfl) (by kernel_rfl) (by kernel_rfl) (by kernel_rfl) (fun _ _ _ h=>h) (Or.inl ⟨by kernel_rfl,fun U hU=>by obtain ⟨r0,r1,r2⟩:=hU;go_simp⟩) ?_
                 refine takeCC [23] (i:=6) (v:=.bool false) rfl (by kernel_rfl) (by kernel_rfl) (by kernel_rfl) (by kernel_rfl) (by kernel_rfl) (by kernel_rfl) (fun _ _ _ h=>h) (Or.inl ⟨by kernel_rfl,fun U hU=>by obtain ⟨r0,r1,r2⟩:=hU;go_simp⟩) ?_
                 refine takeCC [23] (i:=7) (v:=.bool false) rfl (by kernel_rfl) (by kernel_rfl) (by kernel_rfl) (by kernel_rfl) (by kernel_rfl) (by kernel_rfl) (fun _ _ _ h=>h) (Or.inl ⟨by kernel_rfl,fun U hU=>by obtain ⟨r0,r1,r2⟩:=hU;go_simp⟩) ?_
                 refine takeCC [23] (i:=8) (v:=.int .i64 (a:Int)) rfl (by kernel_rfl) (by kernel_rfl) (by kernel_rfl) (by kernel_rfl) (by kernel_rfl) (by kernel_rfl) (fun _ _ _ h=>h) (Or.inl ⟨by kernel_rfl,fun U hU=>by obtain ⟨r0,r1,r2⟩:=hU;go_simp⟩) ?_
                 refine takeCC [23] (i:=9) (v:=.int .i64 (k:Int)) rfl (by kernel_rfl) (by kernel_rfl) (by kernel_rfl) (by kernel_rfl) (by kernel_rfl) (by kernel_rfl) (fun _ _ _ h=>h) (Or.inl ⟨by kernel_rfl,fun U hU=>by obtain ⟨r0,r1,r2⟩:=hU;go_simp⟩) ?_
                 refine takeCC [23] (i:=10) (v:=.pointer (some ⟨g,a*64,none⟩)) rfl (by kernel_rfl) (by kernel_rfl) (by kernel_rfl) (by kernel_rfl) (by kernel_rfl) (by kernel_rfl) (fun _ _ _ h=>h) (Or.inl ⟨by kernel_rfl,fun U hU=>by obtain ⟨r0,r1,r2⟩:=hU;go_simp⟩) ?_
                 refine takeCC [23] (i:=11) (v:=.pointer (some ⟨g,a*64+k,none⟩)) rfl (by kernel_rfl) (by kernel_rfl) (by kernel_rfl) (by kernel_rfl) (by kernel_rfl) (by kernel_rfl) (fun _ _ _ h=>h) (Or.inl ⟨by kernel_rfl,fun U hU=>by obtain ⟨r0,r1,r2⟩:=hU;go_simp⟩) ?_
                 refine takeCC [23] (i:=12) (v:=.bool true) rfl (by kernel_rfl) (by kernel_rfl) (by kernel_rfl) (by kernel_rfl) (by kernel_rfl) (by kernel_rfl) (fun _ _ _ h=>h) (Or.inl ⟨by kernel_rfl,fun U hU=>by obtain ⟨r0,r1,r2⟩:=hU;go_simp⟩) ?_
                 refine takeCC [23] (i:=13) (v:=.bool true) rfl (by kernel_rfl) (by kernel_rfl) (by kernel_rfl) (by kernel_rfl) (by kernel_rfl) (by kernel_rfl) (fun _ _ _ h=>h) (Or.inl ⟨by kernel_rfl,fun U hU=>by obtain ⟨r0,r1,r2⟩:=hU;go_simp⟩) ?_
                 refine takeCC [23] (i:=14) (v:=.int .i64 (k:Int)) rfl (by kernel_rfl) (by kernel_rfl) (by kernel_rfl) (by kernel_rfl) (by kernel_rfl) (by kernel_rfl) (fun _ _ _ h=>h) (Or.inl ⟨by kernel_rfl,fun U hU=>by obtain ⟨r0,r1,r2⟩:=hU;go_simp⟩) ?_
                 refine takeCC [23] (i:=15) (v:=.int .i64 (b:Int)) rfl (by kernel_rfl) (by kernel_rfl) (by kernel_rfl) (by kernel_rfl) (by kernel_rfl) (by kernel_rfl) (fun _ _ _ h=>h) (Or.inl ⟨by kernel_rfl,fun U hU=>by obtain ⟨r0,r1,r2⟩:=hU;go_simp⟩) ?_
                 refine takeCC [23] (i:=16) (v:=.pointer (some ⟨g,k*64,none⟩)) rfl (by kernel_rfl) (by kernel_rfl) (by kernel_rfl) (by kernel_rfl) (by kernel_rfl) (by kernel_rfl) (fun _ _ _ h=>h) (Or.inl ⟨by kernel_rfl,fun U hU=>by obtain ⟨r0,r1,r2⟩:=hU;go_simp⟩) ?_
                 refine takeCC [23] (i:=17) (v:=.pointer (some ⟨g,k*64+b,none⟩)) rfl (by kernel_rfl) (by kernel_rfl) (by kernel_rfl) (by kernel_rfl) (by kernel_rfl) (by kernel_rfl) (fun _ _ _ h=>h) (Or.inl ⟨by kernel_rfl,fun U hU=>by obtain ⟨r0,r1,r2⟩:=hU;go_simp⟩) ?_
                 refine takeCC [23] (i:=18) (v:=.bool true) rfl (by kernel_rfl) (by kernel_rfl) (by kernel_rfl) (by kernel_rfl) (by kernel_rfl) (by kernel_rfl) (fun _ _ _ h=>h) (Or.inl ⟨by kernel_rfl,fun U hU=>by obtain ⟨r0,r1,r2⟩:=hU;go_simp⟩) ?_
                 refine takeCC [23] (i:=19) (v:=.bool true) rfl (by kernel_rfl) (by kernel_rfl) (by kernel_rfl) (by kernel_rfl) (by kernel_rfl) (by kernel_rfl) (fun _ _ _ h=>h) (Or.inl ⟨by kernel_rfl,fun U hU=>by obtain ⟨r0,r1,r2⟩:=hU;go_simp⟩) ?_
                 refine takeCC [23] (i:=20) (v:=.bool true) rfl (by kernel_rfl) (by kernel_rfl) (by kernel_rfl) (by kernel_rfl) (by kernel_rfl) (by kernel_rfl) (fun _ _ _ h=>h) (Or.inl ⟨by kernel_rfl,fun U hU=>by obtain ⟨r0,r1,r2⟩:=hU;go_simp⟩) ?_
                 refine takeCC [22,23] (i:=21) (v:=.pointer (some ⟨g,a*64,none⟩)) rfl (by kernel_rfl) (by kernel_rfl) (by kernel_rfl) (by kernel_rfl) (by kernel_rfl) (by kernel_rfl) (fun _ _ _ h=>h) (Or.inl ⟨by kernel_rfl,fun U hU=>by obtain ⟨r0,r1,r2⟩:=hU;go_simp⟩) ?_
                 refine takeCC [23] (i:=22) (v:=.pointer (some ⟨g,a*64+b,none⟩)) rfl (by kernel_rfl) (by kernel_rfl) (by kernel_rfl) (by kernel_rfl) (by kernel_rfl) (by kernel_rfl) (fun _ _ _ h=>h) (Or.inl ⟨by kernel_rfl,fun U hU=>by obtain ⟨r0,r1,r2⟩:=hU;go_simp⟩) ?_
                 refine lastC (by kernel_rfl) (by kernel_rfl) ⟨z0,z2,z3⟩ (of_decide_eq_true (by kernel_rfl)) ?_
                 refine any_seqI [23] [_] _ _ _ rfl (by kernel_rfl) ?_
                 go_wp2_with fail
                 have HS:=HI.out.step hk ha hb
                 rw [X0,X1,X2] at HS
                 change InvW s (A.set (a*64+b) true) k a (b+1) at HS
                 refine ⟨⟨b+1,_,by omega,by first | go_num | simp,HS,Bd.setCell (p:=⟨g,a*64+b,none⟩) HG.out _,Ad.set (a*64+b) _⟩,by simp [intOf];omega⟩
          ·obtain rfl:b=64:=by omega
           have HIr:Hid (InvW s A k (a+1) 0):=HI.out.row
           go_wp2_with fail
           refine ⟨⟨a+1,A,by omega,by first | go_num | simp,HIr,hbq,hA⟩,by simp [intOf];omega⟩
        ·obtain rfl:a=64:=by omega
         have HIr:Hid (InvW s A (k+1) 0 0):=HI.out.round
         go_wp2_with fail
         refine ⟨⟨k+1,A,by omega,by first | go_num | simp,HIr,hbq,hA⟩,by simp [intOf];omega⟩
      ·obtain rfl:k=64:=by omega
       have HIF:=HI.out.good HLW.out
       have HIG:Hid ((∀ a,a < 64→rd A a a=false)↔goodL h level):=by show _↔_;rw [HGN.out];exact HIF
       have HLN:Hid (A.length=4096):=HI.out.len
       clear HIF
       go_wp2_with fail
       obtain ⟨wB,hwB⟩:∃ wB,wr=wB:=⟨_,rfl⟩
       rw [hwB] at hbq hA ⊢
       clear hwB
       go_loopw [12] (fun iv wr=>∃ (a:Nat),a≤64∧iv=.int .i64 a∧Hid (∀ x,x < a→rd A x x=false)∧wr=wB) (fun iv _=>64 - (intOf iv).toNat)
       case atStart=>exact ⟨0,by omega,rfl,fun x hx=>absurd hx (by omega),rfl⟩
       case round =>
        obtain ⟨a,ha9,rfl,HD,rfl⟩:=hrel
        by_cases ha:a < 64
        ·have j1:(a:Int) < 64:=by omega
         have jwa:IntKind.i64.wrap ((a:Int)+1)=(a:Int)+1:=by rw [IntKind.wrap_i64];omega
         have z0:=hA.cell (a*64+a) (rd A a a) (by rw [rd_at A HLN.out a a ha ha])
         cases X0:rd A a a with
         | true =>
           rw [X0] at z0
           have HNG:Hid (¬ goodL h level):=fun hg=>by have:=HIG.out.2 hg a ha;rw [X0] at this;cases this
           clear X0
           go_wp2_with fail
           go_ret
           exact ⟨false,rfl,⟨fun e=>(by cases e),fun hg=>absurd hg HNG.out⟩,bel_trans B4 hbq⟩
         | false =>
           rw [X0] at z0
           have HD2:Hid (∀ x,x < a+1→rd A x x=false):=fun x hx=>by
            rcases Nat.lt_succ_iff_lt_or_eq.1 hx with h' | rfl
            ·exact HD.out x h'
            ·exact X0
           clear X0
           go_wp2_with fail
           refine ⟨⟨a+1,by omega,by first | go_num | simp,HD2,by first | trivial | rfl⟩,by simp [intOf];omega⟩
        ·obtain rfl:a=64:=by omega
         have HYG:Hid (goodL h level):=HIG.out.1 HD.out
         go_wp2_with fail
         go_ret
         exact ⟨true,rfl,⟨fun _=>HYG.out,fun _=>rfl⟩,bel_trans B4 hbq⟩
end Go.Proofs.YtdlcimfifkhllaaGreat
