/-
  What cartoucheref08.Find answers.
-/
import Derived.Test.YtkkenfhlgpjmjaaGreatDoorCL0d
namespace Go.Proofs.YtkkenfhlgpjmjaaGreatDoor
set_option maxRecDepth 100000
open Go.RowKit
set_option linter.unusedVariables false
attribute [local go_sem] ba_size
set_option maxHeartbeats 2000000 in
theorem rfind_any (h:List Ev) (v:Value) (w:World) (hT:IsEvs w v h) (t:Int) :
 Calls Tryz.prog 29 #[v,.int .i64 t] w fun e w'=>e=.returned (.tuple #[lifA (findP h t).1,.bool (findP h t).2])∧Below w.heap.size w w':=by
 have C1:=fun W hW=>rfirst_any h v W (hT.below (w':=W) hW) t h.length (Nat.le_refl _)
 have C2:=fun W hW=>rend_any h v W (hT.below (w':=W) hW) t h.length (Nat.le_refl _)
 have R0:=SBox.new w 73 #[.int .i64 0,.int .i64 0,.int .i64 0,.bool false]
 have B0:=(Below.refl w.heap.size w).alloc (Nat.le_refl _) (.cells #[.int .i64 0,.int .i64 0,.int .i64 0,.bool false] 73)
 obtain ⟨a,cap,rfl,h1,h2,h3,HC⟩:=hT.reads
 obtain ⟨n,hn⟩:∃ n,h.length=n:=⟨_,rfl⟩
 have HN:Hid (h.length=n):=hn
 rcases hf:fstL h t h.length with _ | f
 ·have HP:findP h t=((0,0,0,false),false):=by unfold findP findL;rw [hf]
  rw [HP]
  rw [hf] at C1
  rw [hn] at h1 h3 C1 C2 ⊢
  simp only [oI] at C1
  clear hf HP hn hT
  go_enter Tryz.func29,Tryz.ntmps29
  go_wp2_with fail
  refine (C1 _ B0).mono ?_
  rintro e w1 ⟨rfl,b1⟩
  have R1:=R0.below b1
  have B1:=bel_trans B0 b1
  have r0:=R1.cell 0 _ rfl
  have r1:=R1.cell 1 _ rfl
  have r2:=R1.cell 2 _ rfl
  have r3:=R1.cell 3 _ rfl
  have g0:=R1.frozen 0
  have g1:=R1.frozen 1
  have g2:=R1.frozen 2
  have g3:=R1.frozen 3
  go_wp2_with fail
  generalize hW:World.setCell _ _ _=W
  have RW:SBox W w.heap.size 73 #[.int .i64 0,.int .i64 0,.int .i64 0,.bool false]:=by rw [← hW];exact R1.put4 _ _ _ _
  have BZ:Below w.heap.size w W:=by rw [← hW];exact bel_put4 B1 (Nat.le_refl _) _ _ _ _
  exact bodyPost_ret (v:=.tuple #[lifA (0,0,0,false),.bool false]) (results_row_tmp Tryz.results29 _ _ w.heap.size 73 _ (0,0) _ rfl RW Tryz.underlying73 rfl size_lif) rfl ⟨rfl,BZ⟩
 ·rcases he:endL h t h.length with _ | g
  ·have HP:findP h t=((t,f,h.length,false),true):=by unfold findP findL;rw [hf];simp only;rw [he]
   rw [HP]
   rw [hf] at C1
   rw [he] at C2
   rw [hn] at h1 h3 C1 C2 ⊢
   simp only [oI] at C1 C2
   have jf:¬ (f:Int) < 0:=by omega
   clear hf he HP hn hT
   go_enter Tryz.func29,Tryz.ntmps29
   go_wp2_with fail
   refine (C1 _ B0).mono ?_
   rintro e w1 ⟨rfl,b1⟩
   have R1:=R0.below b1
   have B1:=bel_trans B0 b1
   go_wp2_with fail
   refine (C2 _ B1).mono ?_
   rintro e w2 ⟨rfl,b2⟩
   have R2:=R1.below b2
   have B2:=bel_trans B1 b2
   have r0:=R2.cell 0 _ rfl
   have r1:=R2.cell 1 _ rfl
   have r2:=R2.cell 2 _ rfl
   have r3:=R2.cell 3 _ rfl
   have g0:=R2.frozen 0
   have g1:=R2.frozen 1
   have g2:=R2.frozen 2
   have g3:=R2.frozen 3
   go_wp2_with fail
   generalize hW:World.setCell _ _ _=W
   have RW:SBox W w.heap.size 73 #[.int .i64 t,.int .i64 (f:Int),.int .i64 (n:Int),.bool false]:=by rw [← hW];exact R2.put4 _ _ _ _
   have BZ:Below w.heap.size w W:=by rw [← hW];exact bel_put4 B2 (Nat.le_refl _) _ _ _ _
   exact bodyPost_ret (v:=.tuple #[lifA (t,f,n,false),.bool true]) (results_row_tmp Tryz.results29 _ _ w.heap.size 73 _ (0,0) _ rfl RW Tryz.underlying73 rfl size_lif) rfl ⟨rfl,BZ⟩
  ·have hgl:=((fi_some _ _ _).1 he).1
   obtain ⟨bb,off,rfl,HQ⟩:=HC.out (by omega)
   have HP:findP h t=((t,f,g,decide ((ev h g).1=4)),true):=by unfold findP findL;rw [hf];simp only;rw [he]
   rw [HP]
   rw [hf] at C1
   rw [he] at C2
   rw [hn] at h1 h3 C1 C2 ⊢
   simp only [oI] at C1 C2
   have jf:¬ (f:Int) < 0:=by omega
   have jg:¬ (g:Int) < 0:=by omega
   have jl:g < n:=by have:=HN.out;omega
   obtain ⟨x0,hx⟩:∃ x,(ev h g).1=x:=⟨_,rfl⟩
   have HX:Hid ((ev h g).1=x0):=hx
   have HG:Hid (g < h.length):=hgl
   rw [hx]
   by_cases d:x0=4
   ·have e4:(x0==4)=true:=by rw [d];rfl
    rw [decide_eq_true d]
    clear hf he HP hn hT hgl hx
    go_enter Tryz.func29,Tryz.ntmps29
    go_wp2_with fail
    refine (C1 _ B0).mono ?_
    rintro e w1 ⟨rfl,b1⟩
    have R1:=R0.below b1
    have B1:=bel_trans B0 b1
    go_wp2_with fail
    refine (C2 _ B1).mono ?_
    rintro e w2 ⟨rfl,b2⟩
    have R2:=R1.below b2
    have B2:=bel_trans B1 b2
    have cc:=(HQ.out g HG.out _ B2).1
    rw [HX.out] at cc
    have r0:=R2.cell 0 _ rfl
    have r1:=R2.cell 1 _ rfl
    have r2:=R2.cell 2 _ rfl
    have r3:=R2.cell 3 _ rfl
    have g0:=R2.frozen 0
    have g1:=R2.frozen 1
    have g2:=R2.frozen 2
    have g3:=R2.frozen 3
    go_wp2_with fail
    generalize hW:World.setCell _ _ _=W
    have RW:SBox W w.heap.size 73 #[.int .i64 t,.int .i64 (f:Int),.int .i64 (g:Int),.bool true]:=by rw [← hW];exact R2.put4 _ _ _ _
    have BZ:Below w.heap.size w W:=by rw [← hW];exact bel_put4 B2 (Nat.le_refl _) _ _ _ _
    exact bodyPost_ret (v:=.tuple #[lifA (t,f,g,true),.bool true]) (results_row_tmp Tryz.results29 _ _ w.heap.size 73 _ (0,0) _ rfl RW Tryz.underlying73 rfl size_lif) rfl ⟨rfl,BZ⟩
   ·have e4:(x0==4)=false:=beq_eq_false_iff_ne.2 d
    rw [decide_eq_false d]
    clear hf he HP hn hT hgl hx
    go_enter Tryz.func29,Tryz.ntmps29
    go_wp2_with fail
    refine (C1 _ B0).mono ?_
    rintro e w1 ⟨rfl,b1⟩
    have R1:=R0.below b1
    have B1:=bel_trans B0 b1
    go_wp2_with fail
    refine (C2 _ B1).mono ?_
    rintro e w2 ⟨rfl,b2⟩
    have R2:=R1.below b2
    have B2:=bel_trans B1 b2
    have cc:=(HQ.out g HG.out _ B2).1
    rw [HX.out] at cc
    have r0:=R2.cell 0 _ rfl
    have r1:=R2.cell 1 _ rfl
    have r2:=R2.cell 2 _ rfl
    have r3:=R2.cell 3 _ rfl
    have g0:=R2.frozen 0
    have g1:=R2.frozen 1
    have g2:=R2.frozen 2
    have g3:=R2.frozen 3
    go_wp2_with fail
    generalize hW:World.setCell _ _ _=W
    have RW:SBox W w.heap.size 73 #[.int .i64 t,.int .i64 (f:Int),.int .i64 (g:Int),.bool false]:=by rw [← hW];exact R2.put4 _ _ _ _
    have BZ:Below w.heap.size w W:=by rw [← hW];exact bel_put4 B2 (Nat.le_refl _) _ _ _ _
    exact bodyPost_ret (v:=.tuple #[lifA (t,f,g,false),.bool true]) (results_row_tmp Tryz.results29 _ _ w.heap.size 73 _ (0,0) _ rfl RW Tryz.underlying73 rfl size_lif) rfl ⟨rfl,BZ⟩
end Go.Proofs.YtkkenfhlgpjmjaaGreatDoor
