/-
  What the closure that tree.crownBy makes answers, whatever its sum keeps (J).
-/
import Derived.Test.YtkkenfhlgpjmjaaGreatDoorCL1b
namespace Go.Proofs.YtkkenfhlgpjmjaaGreatDoor
set_option maxRecDepth 100000
open Go.RowKit
set_option linter.unusedVariables false
attribute [local go_sem] ba_size
set_option maxHeartbeats 2000000 in
theorem crown_sum (J:List (List UInt8)→World→Prop) (w0:World) (bS bC:Nat)
 (hJe:∀ pre W,J pre W→W.cell? ⟨bS,0,none⟩=some (.func (.func 82) #[] #[])∧W.cell? ⟨bC,0,none⟩=some (.func (.func 150) #[] #[.pointer (some ⟨bS,0,none⟩),.pointer (some ⟨bC,0,none⟩)])∧Below w0.heap.size w0 W)
 (hJd:∀ pre W,J pre W→J pre W.drew)
 (hsum:∀ pre x W,J pre W→pre.length≤100000→x.length≤1125899906842625→Calls Tryz.prog 82 #[.string ⟨x.toArray⟩] W fun e W'=>e=.returned (.string ⟨(sumL x).toArray⟩)∧J (pre++[x]) W') :
 ∀ (m:Nat) (ss:List (List UInt8)) (v:Value) (pre:List (List UInt8)) (W:World),ss.length=m→m≤4096→pre.length+2*m≤100000→IsTxt w0 v ss→J pre W →
   Calls Tryz.prog 150 #[v,.pointer (some ⟨bS,0,none⟩),.pointer (some ⟨bC,0,none⟩)] W fun e W'=>e=.returned (.string ⟨(crownL sumL ss).toArray⟩)∧J (pre++insL sumL ss) W':=by
 intro m
 induction m using Nat.strongRecOn with
 | _ m ih =>
   intro ss v pre W hm h4 hpr hT hJ
   have hbd:=hT.bound
   obtain ⟨cS,cC,hB0⟩:=hJe pre W hJ
   by_cases h0:ss.length=0
   ·obtain ⟨a,cap,rfl,_⟩:=hT.len
    have HE:Hid (crownL sumL ss=[]):=by show crownL sumL ss=[];unfold crownL;rw [if_pos h0]
    have HI:Hid (insL sumL ss=[]):=insL_nil sumL ss h0
    rw [h0]
    clear ih hT hbd hJe hJd hsum
    go_enter Tryz.func150,Tryz.ntmps150
    go_wp2_with fail
    go_ret
    exact ⟨by rw [HE.out];rfl,by rw [HI.out,List.append_nil];exact hJ⟩
   ·obtain ⟨b,off,cap,rfl,hblt,hc1,hc2,hn,HC⟩:=hT.at (by omega)
    by_cases h1:ss.length=1
    ·match ss,h1 with
     | [s],_ =>
       have c0:W.cell? ⟨b,off,none⟩=some (.string ⟨s.toArray⟩):=(hB0.cell (p:=⟨b,off,none⟩) hblt).trans (HC.out 0 (by simp))
       have hs:=hbd s (by simp)
       have HE:Hid (crownL sumL [s]=sumL (leafI s)):=by show crownL sumL [s]=_;unfold crownL;rw [if_neg (by simp),topL_one]
       have HI:Hid (insL sumL [s]=[leafI s]):=insL_one sumL s
       have HS:=hsum pre (leafI s) W.drew (hJd _ _ hJ) (by omega) (by unfold leafI;simp;omega)
       obtain ⟨x,hx⟩:∃ x,sumL (leafI s)=x:=⟨_,rfl⟩
       rw [hx] at HE HS
       clear ih hT HC hbd hx hsum hJe hJd
       go_enter Tryz.func150,Tryz.ntmps150
       go_wp2_with fail
       refine wp_region_any (by kernel_rfl) ?_
       change wpAny _ _ _ _ _ _ _ (World.drew _)
       refine wpAny_take (i:=1) (v:=.slice (some ⟨b,off,none⟩) 1 cap) rfl (by kernel_rfl) (by kernel_rfl) (by kernel_rfl) (fun _ _ _ h=>h) (Or.inl ⟨by rfl,fun w=>by go_simp⟩) ?_
       refine wpAny_take (i:=2) (v:=.pointer (some ⟨b,off,none⟩)) rfl (by kernel_rfl) (by kernel_rfl) (by kernel_rfl) (fun _ _ _ h=>h) (Or.inl ⟨by rfl,fun w=>by go_simp⟩) ?_
       refine wpAny_ready (rs:=[0,3]) (by kernel_rfl) (by simp) ?_
       refine AllReady.cons rfl (fun K hK=>?_) (AllReady.cons rfl (fun K hK=>?_) AllReady.nil)
       ·go_simp
        refine hK _ _ ?_
        clear hK K
        refine any_seqI [3,4,5,6] [_,_,_,_] _ _ _ rfl (by kernel_rfl) ?_
        go_wp2_with fail
        refine (pleafIn_any s hs _).mono ?_
        rintro e w1 ⟨rfl,rfl⟩
        go_wp2_with fail
        refine HS.mono ?_
        rintro e w2 ⟨rfl,hJ2⟩
        go_wp2_with fail
        go_ret
        exact ⟨by rw [HE.out];rfl,by rw [HI.out];exact hJ2⟩
       ·go_simp
        refine hK _ _ ?_
        clear hK K
        refine wpAny_ready (rs:=[0,4]) (by kernel_rfl) (by simp) ?_
        refine AllReady.cons rfl (fun K hK=>?_) (AllReady.cons rfl (fun K hK=>?_) AllReady.nil)
        ·go_simp
         refine hK _ _ ?_
         clear hK K
         refine any_seqI [4,5,6] [_,_,_] _ _ _ rfl (by kernel_rfl) ?_
         go_wp2_with fail
         refine (pleafIn_any s hs _).mono ?_
         rintro e w1 ⟨rfl,rfl⟩
         go_wp2_with fail
         refine HS.mono ?_
         rintro e w2 ⟨rfl,hJ2⟩
         go_wp2_with fail
         go_ret
         exact ⟨by rw [HE.out];rfl,by rw [HI.out];exact hJ2⟩
        ·go_simp
         refine (pleafIn_any s hs _).mono ?_
         rintro e w1 ⟨rfl,rfl⟩
         refine hK _ _ ?_
         clear hK K
         refine any_seqI [0,5,6] [_,_,_] _ _ _ rfl (by kernel_rfl) ?_
         go_wp2_with fail
         refine HS.mono ?_
         rintro e w2 ⟨rfl,hJ2⟩
         go_wp2_with fail
         go_ret
         exact ⟨by rw [HE.out];rfl,by rw [HI.out];exact hJ2⟩
    ·have hlt:=hf_lt ss.length (by omega)
     have hps:=hf_pos ss.length
     have hl1:(ss.take (hf ss.length)).length=hf ss.length:=by rw [List.length_take];omega
     have hl2:(ss.drop (hf ss.length)).length=ss.length - hf ss.length:=List.length_drop
     have T1:=hT.take (hf ss.length) (by omega) (by omega)
     have T2:=hT.drop (hf ss.length) (by omega) (by omega)
     have I1:=fun pre W hp h=>ih (hf ss.length) (by omega) (ss.take (hf ss.length)) (.slice (some ⟨b,off,none⟩) (hf ss.length) cap) pre W hl1 (by omega) hp T1 h
     have I2:=fun pre W hp h=>ih (ss.length - hf ss.length) (by omega) (ss.drop (hf ss.length)) (.slice (some ⟨b,off+hf ss.length,none⟩) (ss.length - hf ss.length) (cap - hf ss.length)) pre W hl2 (by omega) hp T2 h
     have hH:=fun w1=>phalf_any ss.length (by omega) (by omega) w1
     have HN:Hid (topL sumL ss=nodeI (crownL sumL (ss.take (hf ss.length))) (crownL sumL (ss.drop (hf ss.length)))):=topL_crown sumL ss (by omega)
     have HE:Hid (crownL sumL ss=sumL (topL sumL ss)):=by show crownL sumL ss=_;unfold crownL;rw [if_neg h0]
     have HI:Hid (insL sumL ss=insL sumL (ss.drop (hf ss.length))++insL sumL (ss.take (hf ss.length))++[topL sumL ss]):=insL_more sumL ss (by omega)
     have n1:=insL_len sumL _ (ss.take (hf ss.length)) hl1
     have n2:=insL_len sumL _ (ss.drop (hf ss.length)) hl2
     have hpn:pre.length+2*ss.length≤100000:=by omega
     have l1:=crownL_le32 sumL sumL_len32 (ss.take (hf ss.length))
     have l2:=crownL_le32 sumL sumL_len32 (ss.drop (hf ss.length))
     obtain ⟨k,hk⟩:∃ k,hf ss.length=k:=⟨_,rfl⟩
     rw [hk] at hlt hps I1 I2 hH HN HI l1 l2 n1 n2
     obtain ⟨A,hA⟩:∃ A,crownL sumL (ss.take k)=A:=⟨_,rfl⟩
     obtain ⟨B,hB⟩:∃ B,crownL sumL (ss.drop k)=B:=⟨_,rfl⟩
     obtain ⟨P,hP⟩:∃ P,insL sumL (ss.take k)=P:=⟨_,rfl⟩
     obtain ⟨Q,hQ⟩:∃ Q,insL sumL (ss.drop k)=Q:=⟨_,rfl⟩
     rw [hA,hB] at HN
     rw [HN.out] at HE HI
     rw [hP,hQ] at HI
     rw [hA] at I1 l1
     rw [hB] at I2 l2
     rw [hP] at I1 n1
     rw [hQ] at I2 n2
     have hS:=fun pre W hp h=>hsum pre (nodeI A B) W h hp (by unfold nodeI;simp;omega)
     have hNd:=fun w1=>pnodeIn_any A B (by omega) (by omega) w1
     obtain ⟨x,hx⟩:∃ x,sumL (nodeI A B)=x:=⟨_,rfl⟩
     rw [hx] at HE hS
     obtain ⟨n,hnn⟩:∃ n,ss.length=n:=⟨_,rfl⟩
     simp only [hnn] at hlt h0 h1 hc1 hn hH I1 I2 n2 hpn ⊢
     clear hA hB hP hQ hx hk ih hT HC hbd hl1 hl2 hnn hm hpr T1 T2 hsum HN
     have i0:((n:Int)==0)=false:=by rw [beq_eq_false_iff_ne];omega
     have i1:((n:Int)==1)=false:=by rw [beq_eq_false_iff_ne];omega
     have i2:(k:Int)≤(cap:Int):=by omega
     have i3:(k:Int)≤(n:Int):=by omega
     have i4:¬ cap=k:=by omega
     go_enter Tryz.func150,Tryz.ntmps150
     go_wp2_with fail
     refine (hH W).mono ?_
     rintro e w1 ⟨rfl,rfl⟩
     go_wp2_with fail
     refine wp_region_any (by kernel_rfl) ?_
     change wpAny _ _ _ _ _ _ _ (World.drew _)
     refine wpAny_take (i:=1) (v:=.slice (some ⟨b,off,none⟩) n cap) rfl (by kernel_rfl) (by kernel_rfl) (by kernel_rfl) (fun _ _ _ h=>h) (Or.inl ⟨by rfl,fun w=>by go_simp⟩) ?_
     refine wpAny_take (i:=2) (v:=.int .i64 k) rfl (by kernel_rfl) (by kernel_rfl) (by kernel_rfl) (fun _ _ _ h=>h) (Or.inl ⟨by rfl,fun w=>by go_simp⟩) ?_
     refine wpAny_take (i:=3) (v:=.slice (some ⟨b,off+k,none⟩) (n - k) (cap - k)) rfl (by kernel_rfl) (by kernel_rfl) (by kernel_rfl) (fun _ _ _ h=>h) (Or.inl ⟨by rfl,fun w=>by go_simp⟩) ?_
     refine any_seqI [0,4,5] [_,_,_] _ _ _ rfl (by kernel_rfl) ?_
     go_wp2_with fail
     refine (I2 pre _ (by omega) (hJd _ _ hJ)).mono ?_
     rintro e w2 ⟨rfl,hJ2⟩
     obtain ⟨cS2,cC2,hB2⟩:=hJe _ w2 hJ2
     go_wp2_with fail
     refine wp_region_any (by kernel_rfl) ?_
     change wpAny _ _ _ _ _ _ _ (World.drew _)
     refine wpAny_take (i:=1) (v:=.slice (some ⟨b,off,none⟩) n cap) rfl (by kernel_rfl) (by kernel_rfl) (by kernel_rfl) (fun _ _ _ h=>h) (Or.inl ⟨by rfl,fun w=>by go_simp⟩) ?_
     refine wpAny_take (i:=2) (v:=.int .i64 k) rfl (by kernel_rfl) (by kernel_rfl) (by kernel_rfl) (fun _ _ _ h=>h) (Or.inl ⟨by rfl,fun w=>by go_simp⟩) ?_
     refine wpAny_take (i:=3) (v:=.slice (some ⟨b,off,none⟩) k cap) rfl (by kernel_rfl) (by kernel_rfl) (by kernel_rfl) (fun _ _ _ h=>h) (Or.inl ⟨by rfl,fun w=>by go_simp⟩) ?_
     refine any_seqI [0,4,5] [_,_,_] _ _ _ rfl (by kernel_rfl) ?_
     go_wp2_with fail
     refine (I1 _ _ (by rw [List.length_append];omega) (hJd _ _ hJ2)).mono ?_
     rintro e w3 ⟨rfl,hJ3⟩
     obtain ⟨cS3,cC3,hB3⟩:=hJe _ w3 hJ3
     have hS3:=hS _ _ (by rw [List.length_append,List.length_append];omega) (hJd _ _ hJ3)
     go_wp2_with fail
     refine wp_region_any (by kernel_rfl) ?_
     change wpAny _ _ _ _ _ _ _ (World.drew _)
     refine wpAny_take (i:=1) (v:=.string ⟨A.toArray⟩) rfl (by kernel_rfl) (by kernel_rfl) (by kernel_rfl) (fun _ _ _ h=>h) (Or.inl ⟨by rfl,fun w=>by go_simp⟩) ?_
     refine wpAny_take (i:=2) (v:=.string ⟨B.toArray⟩) rfl (by kernel_rfl) (by kernel_rfl) (by kernel_rfl) (fun _ _ _ h=>h) (Or.inl ⟨by rfl,fun w=>by go_simp⟩) ?_
     refine wpAny_ready (rs:=[0,3]) (by kernel_rfl) (by simp) ?_
     refine AllReady.cons rfl (fun K hK=>?_) (AllReady.cons rfl (fun K hK=>?_) AllReady.nil)
     ·go_simp
      refine hK _ _ ?_
      clear hK K
      refine any_seqI [3,4,5] [_,_,_] _ _ _ rfl (by kernel_rfl) ?_
      go_wp2_with fail
      refine (hNd _).mono ?_
      rintro e w4 ⟨rfl,rfl⟩
      go_wp2_with fail
      refine hS3.mono ?_
      rintro e w5 ⟨rfl,hJ5⟩
      go_wp2_with fail
      go_ret
      exact ⟨by rw [HE.out];rfl,by rw [HI.out];simpa only [List.append_assoc] using hJ5⟩
     ·go_simp
      refine (hNd _).mono ?_
      rintro e w4 ⟨rfl,rfl⟩
      refine hK _ _ ?_
      clear hK K
      refine any_seqI [0,4,5] [_,_,_] _ _ _ rfl (by kernel_rfl) ?_
      go_wp2_with fail
      refine hS3.mono ?_
      rintro e w5 ⟨rfl,hJ5⟩
      go_wp2_with fail
      go_ret
      exact ⟨by rw [HE.out];rfl,by rw [HI.out];simpa only [List.append_assoc] using hJ5⟩
end Go.Proofs.YtkkenfhlgpjmjaaGreatDoor
