/-
  The document's example of chapter 15, in lists: its certificate is taken.
-/
import Derived.Test.YthamoeekiglphaaGreatDoorER14Make
namespace Go.Proofs.YthamoeekiglphaaGreatDoor
set_option maxRecDepth 100000
set_option linter.unusedVariables false
def sh15:List Ev:=[(1,1,[],[]),(1,2,[],[]),(2,1,[97],[]),(2,2,[97],[]),(3,1,[97],[120]),(3,2,[97],[121]),(4,1,[],[]),(4,2,[],[])]
def v15:Vd:=(1,false,[],(0,0,0),[(1,1,2,4,5),(3,2,1,3,4)])
theorem judge15:judgeL sh15 1=(v15,0):=by kernel_rfl
theorem need15:needN sh15 v15=[3,4,5,6,7]:=by kernel_rfl
def TL15 (K a b:List UInt8):List Ev:=[(1,1,[],[]),(1,2,[],[]),(2,1,K,[]),(2,2,K,[]),(3,1,K,a),(3,2,K,b),(4,1,[],[]),(4,2,[],[])]
theorem tags15:∃ K a b:List UInt8,K.length=32∧a.length=32∧b.length=32∧allP [115] sh15=(TL15 K a b,0) :=
 ⟨keyL [115] [5,97],keyL [115] [6,120],keyL [115] [6,121],keyL_32 _ _,keyL_32 _ _,keyL_32 _ _,allP_ok _ _ (by decide) (by decide) (.inl (by decide))⟩
def c15 (TL:List Ev):Ct:=([116],1,[],rootL sumL (TL.map bytE),8,v15,[3,4,5,6,7].map (pfN15 TL))
theorem may_ev15 (K a b:List UInt8) (hK:K.length=32) (ha:a.length=32) (hb:b.length=32):allMay (TL15 K a b):=by
 intro x hx;have h1:mayE (2,1,K,[]):=⟨of_decide_eq_true (by kernel_rfl),by rw [if_pos (of_decide_eq_true (by kernel_rfl))];simp [hK]⟩;have h2:mayE (2,2,K,[]):=⟨of_decide_eq_true (by kernel_rfl),by rw [if_pos (of_decide_eq_true (by kernel_rfl))];simp [hK]⟩;have h3:mayE (3,1,K,a):=⟨of_decide_eq_true (by kernel_rfl),by rw [if_pos (of_decide_eq_true (by kernel_rfl))];simp [hK,ha]⟩;have h4:mayE (3,2,K,b):=⟨of_decide_eq_true (by kernel_rfl),by rw [if_pos (of_decide_eq_true (by kernel_rfl))];simp [hK,hb]⟩;simp only [TL15,List.mem_cons,List.not_mem_nil,or_false] at hx;rcases hx with rfl | rfl | rfl | rfl | rfl | rfl | rfl | rfl
 ·decide
 ·decide
 ·exact h1
 ·exact h2
 ·exact h3
 ·exact h4
 ·decide
 ·decide
theorem root_32 (l:List (List UInt8)):(rootL sumL l).length=32:=sumL_len32 _
theorem pf_may15 (TL:List Ev) (hl:TL.length=8) (hm:allMay TL) (n:Nat) (hn:n < 8):pfM (pfN15 TL n):=by
 refine ⟨⟨⟨by show (0:Int)≤(n:Int);omega,by show (n:Int)≤255;omega⟩,?_⟩,?_,fun t ht=>?_⟩
 ·show mayE (ev TL n)
  rw [ev_get TL n (by omega)];exact hm _ (List.getElem_mem _)
 ·exact pathL_sides sumL 12 (TL.map bytE) n (by rw [List.length_map,hl];decide)
 ·exact pathL_32 sumL sumL_len32 _ (TL.map bytE) n rfl (by rw [List.length_map,hl];exact hn) t ht
theorem may_c15 (TL:List Ev) (hl:TL.length=8) (hm:allMay TL):mayC (c15 TL):=by
 refine ⟨⟨of_decide_eq_true (by kernel_rfl),of_decide_eq_true (by kernel_rfl),.inl rfl,root_32 _,of_decide_eq_true (by kernel_rfl),of_decide_eq_true (by kernel_rfl)⟩,of_decide_eq_true (by kernel_rfl),of_decide_eq_true (by kernel_rfl),fun p hp=>?_⟩;obtain ⟨n,hn,rfl⟩:=List.mem_map.1 hp
 have hn8:n < 8:=by
  simp only [List.mem_cons,List.not_mem_nil,or_false] at hn;omega
 exact pf_may15 TL hl hm n hn8
theorem pfU_c15 (TL:List Ev) (hl:TL.length=8):pfU15 sumL (rootL sumL (TL.map bytE)) 8 (c15 TL).2.2.2.2.2.2 5=true:=by
 have key:∀ n:Nat,n < 8→checkL sumL (rootL sumL (TL.map bytE)) 8 (n:Int) (bytE (ev TL n)) (pathL sumL (TL.map bytE) n)=0:=fun n hn=>by
  have hlm:(TL.map bytE).length=8:=by rw [List.length_map,hl]
  have:=check_path sumL sumL_len32 (TL.map bytE) (by omega) n (by omega);have hc:((TL.map bytE).length:Int)=8:=by rw [hlm];rfl
  rw [hc] at this;rw [ev_get TL n (by omega)];simpa using this
 unfold pfU15;have r5:List.range 5=[0,1,2,3,4]:=rfl;rw [r5]
 have one:∀ k n:Nat,pf15 (c15 TL).2.2.2.2.2.2 k=pfN15 TL n→n < 8→(k=0∨(pf15 (c15 TL).2.2.2.2.2.2 (k - 1)).1 < (n:Int))→pfK15 sumL (rootL sumL (TL.map bytE)) 8 (c15 TL).2.2.2.2.2.2 k=true:=fun k n h1 h2 h3=>by
  unfold pfK15;rw [h1,Bool.and_eq_true,Bool.or_eq_true];refine ⟨?_,decide_eq_true (key n h2)⟩;rcases h3 with h3 | h3
  ·exact .inl (decide_eq_true h3)
  ·exact .inr (decide_eq_true h3)
 simp only [List.all_cons,List.all_nil,Bool.and_true,Bool.and_eq_true];refine ⟨one 0 3 rfl (by decide) (.inl rfl),one 1 4 rfl (by decide) (.inr ?_),one 2 5 rfl (by decide) (.inr ?_),one 3 6 rfl (by decide) (.inr ?_),one 4 7 rfl (by decide) (.inr ?_)⟩
 ·show (3:Int) < 4;decide
 ·show (4:Int) < 5;decide
 ·show (5:Int) < 6;decide
 ·show (6:Int) < 7;decide
theorem ring_c15 (K a b:List UInt8):ringB (c15 (TL15 K a b)).2.2.2.2.2.2 1 [(1,1,2,4,5),(3,2,1,3,4)]=true:=by
 obtain ⟨l,hl⟩:∃ l,(c15 (TL15 K a b)).2.2.2.2.2.2=l:=⟨_,rfl⟩;have e3:evP l 3=(2,2,K,[]):=by rw [← hl];rfl
 have e4:evP l 4=(3,1,K,a):=by rw [← hl];rfl
 have e5:evP l 5=(3,2,K,b):=by rw [← hl];rfl
 have m1:comP l 1=6:=by rw [← hl];rfl
 have m2:comP l 2=7:=by rw [← hl];rfl
 rw [hl]
 have E1:edgeB l (1,1,2,4,5)=true:=by
  unfold edgeB kindE;simp only [e4,e5,m1,m2];simp
 have E2:edgeB l (3,2,1,3,4)=true:=by
  unfold edgeB kindE aheadP;simp only [e3,e4,m1,m2];simp
 unfold ringB rgU;have r2:List.range ([(1,1,2,4,5),(3,2,1,3,4)]:List Ed).length=[0,1]:=rfl;rw [r2]
 have k0:rgK l 1 [(1,1,2,4,5),(3,2,1,3,4)] 0=true:=by
  unfold rgK nxE;show (edgeB l (1,1,2,4,5)&&_&&_)=true;rw [E1];rfl
 have k1:rgK l 1 [(1,1,2,4,5),(3,2,1,3,4)] 1=true:=by
  unfold rgK nxE;show (edgeB l (3,2,1,3,4)&&_&&_)=true;rw [E2];rfl
 simp [k0,k1]
theorem lean_c15 (K a b:List UInt8) (hK:K.length=32) (ha:a.length=32) (hb:b.length=32):leanL sumL (c15 (TL15 K a b)) (rootL sumL ((TL15 K a b).map bytE))=0∧leanL sumL (c15 (TL15 K a b)) [120]=13:=by
 have hm:=may_c15 (TL15 K a b) rfl (may_ev15 K a b hK ha hb)
 have hp:provL sumL (c15 (TL15 K a b)) (rootL sumL ((TL15 K a b).map bytE))=0:=by
  unfold provL;rw [if_neg (fun h=>h hm),if_neg (fun h=>h rfl)];exact if_pos (pfU_c15 (TL15 K a b) rfl)
 have hq:provL sumL (c15 (TL15 K a b)) [120]=13:=by
  unfold provL
  rw [if_neg (fun h=>h hm),if_pos (fun h=>by
   have:=congrArg List.length h;rw [show (c15 (TL15 K a b)).2.2.2.1=rootL sumL ((TL15 K a b).map bytE) from rfl,root_32] at this;simp at this)]
 constructor
 ·unfold leanL
  rw [hp];rw [if_neg (fun h=>h rfl),if_neg (fun h=>(by cases h)),if_neg (fun h=>h rfl),if_neg (fun h=>h rfl)];exact if_pos (ring_c15 K a b)
 ·unfold leanL
  rw [hq];rfl
end Go.Proofs.YthamoeekiglphaaGreatDoor
