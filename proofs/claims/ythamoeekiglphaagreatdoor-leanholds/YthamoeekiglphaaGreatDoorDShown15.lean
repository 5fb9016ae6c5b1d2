/-
  What cartouchelaw15.shown answers.
-/
import Derived.Test.YthamoeekiglphaaGreatDoorDL5a
namespace Go.Proofs.YthamoeekiglphaaGreatDoor
set_option maxRecDepth 100000
open Go.RowKit
set_option linter.unusedVariables false
attribute [local go_sem] ba_size
theorem own_lit15 (w:World) (e n:Nat) (L:List Ev) (hn:L.length=n) (hs:n≤1000):(w.alloc (.cells (recV evV L).toArray e)).ownsRow w.heap.size e 4 (.slice (some ⟨w.heap.size,0,none⟩) n n) n (recV evV L) :=
 ⟨by rw [recV_length evV_len,hn],.inr ⟨w.heap.size,n,_,rfl,Nat.le_refl _,SBox.new w e _,Nat.le_refl _,by unfold maxLen;omega,by rw [List.size_toArray,recV_length evV_len,hn],by rw [List.toList_toArray,List.take_of_length_le (by rw [recV_length evV_len,hn];exact Nat.le_refl _)]⟩⟩
set_option maxHeartbeats 4000000 in
theorem shown15_any (C:P15C) (w:World) (hG:G w):Calls Tryz.prog 10 #[] w fun e w'=>e=.returned (.bool true)∧Below w.heap.size w w':=by
 have O1:(w.alloc (.cells #[.int .i64 1,.int .i64 1,.string ⟨#[]⟩,.string ⟨#[]⟩,.int .i64 1,.int .i64 2,.string ⟨#[]⟩,.string ⟨#[]⟩,.int .i64 2,.int .i64 1,.string ⟨#[97]⟩,.string ⟨#[]⟩,.int .i64 2,.int .i64 2,.string ⟨#[97]⟩,.string ⟨#[]⟩,.int .i64 3,.int .i64 1,.string ⟨#[97]⟩,.string ⟨#[120]⟩,.int .i64 3,.int .i64 2,.string ⟨#[97]⟩,.string ⟨#[121]⟩,.int .i64 4,.int .i64 1,.string ⟨#[]⟩,.string ⟨#[]⟩,.int .i64 4,.int .i64 2,.string ⟨#[]⟩,.string ⟨#[]⟩] 53)).ownsRow w.heap.size 53 4 (.slice (some ⟨w.heap.size,0,none⟩) 8 8) 8 (recV evV sh15):=own_lit15 w 53 8 sh15 rfl (by omega)
 have T1:IsEvs (w.alloc (.cells #[.int .i64 1,.int .i64 1,.string ⟨#[]⟩,.string ⟨#[]⟩,.int .i64 1,.int .i64 2,.string ⟨#[]⟩,.string ⟨#[]⟩,.int .i64 2,.int .i64 1,.string ⟨#[97]⟩,.string ⟨#[]⟩,.int .i64 2,.int .i64 2,.string ⟨#[97]⟩,.string ⟨#[]⟩,.int .i64 3,.int .i64 1,.string ⟨#[97]⟩,.string ⟨#[120]⟩,.int .i64 3,.int .i64 2,.string ⟨#[97]⟩,.string ⟨#[121]⟩,.int .i64 4,.int .i64 1,.string ⟨#[]⟩,.string ⟨#[]⟩,.int .i64 4,.int .i64 2,.string ⟨#[]⟩,.string ⟨#[]⟩] 53)) (.slice (some ⟨w.heap.size,0,none⟩) 8 8) sh15:=IsRec.own (L:=sh15) evV_len (by omega) O1 (by decide)
 have B1:=(Below.refl w.heap.size w).alloc (Nat.le_refl _) (.cells #[.int .i64 1,.int .i64 1,.string ⟨#[]⟩,.string ⟨#[]⟩,.int .i64 1,.int .i64 2,.string ⟨#[]⟩,.string ⟨#[]⟩,.int .i64 2,.int .i64 1,.string ⟨#[97]⟩,.string ⟨#[]⟩,.int .i64 2,.int .i64 2,.string ⟨#[97]⟩,.string ⟨#[]⟩,.int .i64 3,.int .i64 1,.string ⟨#[97]⟩,.string ⟨#[120]⟩,.int .i64 3,.int .i64 2,.string ⟨#[97]⟩,.string ⟨#[121]⟩,.int .i64 4,.int .i64 1,.string ⟨#[]⟩,.string ⟨#[]⟩,.int .i64 4,.int .i64 2,.string ⟨#[]⟩,.string ⟨#[]⟩] 53)
 have hg3:=hG.size
 obtain ⟨K,a,b,hK,ha,hb,hT⟩:=tags15
 have hme:=may_ev15 K a b hK ha hb
 have hmc:=may_c15 (TL15 K a b) rfl hme
 have hM:=rmake15_any [116] 1 [] [115] sh15 (TL15 K a b) 1 1 0 0 0 false [] [(1,1,2,4,5),(3,2,1,3,4)] (.slice (some ⟨w.heap.size,0,none⟩) 8 8) (w.alloc (.cells #[.int .i64 1,.int .i64 1,.string ⟨#[]⟩,.string ⟨#[]⟩,.int .i64 1,.int .i64 2,.string ⟨#[]⟩,.string ⟨#[]⟩,.int .i64 2,.int .i64 1,.string ⟨#[97]⟩,.string ⟨#[]⟩,.int .i64 2,.int .i64 2,.string ⟨#[97]⟩,.string ⟨#[]⟩,.int .i64 3,.int .i64 1,.string ⟨#[97]⟩,.string ⟨#[120]⟩,.int .i64 3,.int .i64 2,.string ⟨#[97]⟩,.string ⟨#[121]⟩,.int .i64 4,.int .i64 1,.string ⟨#[]⟩,.string ⟨#[]⟩,.int .i64 4,.int .i64 2,.string ⟨#[]⟩,.string ⟨#[]⟩] 53)) T1 judge15 hT rfl (by decide) hme (by
  show mayC ([116],1,[],rootL sumL ((TL15 K a b).map bytE),(8:Int),v15,(needN sh15 v15).map (pfN15 (TL15 K a b)))
  rw [need15]
  exact hmc)
 obtain ⟨l0,l1⟩:=lean_c15 K a b hK ha hb
 have HK:=Lib.hid (fun (W:World) (hW:Below w.heap.size w W) vo vr vp (root:List UInt8) (hA:CtAt W (c15 (TL15 K a b)) vo vr vp)=>C.check (c15 (TL15 K a b)) vo vr vp root W (hG.below hW hg3) hA)
 have hc:c15 (TL15 K a b)=([116],1,[],rootL sumL ((TL15 K a b).map bytE),8,v15,[3,4,5,6,7].map (pfN15 (TL15 K a b))):=rfl
 have HM2:Hid (∀ e w',CtRes (w.alloc (.cells #[.int .i64 1,.int .i64 1,.string ⟨#[]⟩,.string ⟨#[]⟩,.int .i64 1,.int .i64 2,.string ⟨#[]⟩,.string ⟨#[]⟩,.int .i64 2,.int .i64 1,.string ⟨#[97]⟩,.string ⟨#[]⟩,.int .i64 2,.int .i64 2,.string ⟨#[97]⟩,.string ⟨#[]⟩,.int .i64 3,.int .i64 1,.string ⟨#[97]⟩,.string ⟨#[120]⟩,.int .i64 3,.int .i64 2,.string ⟨#[97]⟩,.string ⟨#[121]⟩,.int .i64 4,.int .i64 1,.string ⟨#[]⟩,.string ⟨#[]⟩,.int .i64 4,.int .i64 2,.string ⟨#[]⟩,.string ⟨#[]⟩] 53)) (([116],1,[],rootL sumL ((TL15 K a b).map bytE),(sh15.length:Int),(1,false,[],(0,0,0),[(1,1,2,4,5),(3,2,1,3,4)]),(needN sh15 (1,false,[],(0,0,0),[(1,1,2,4,5),(3,2,1,3,4)])).map (pfN15 (TL15 K a b))),0) e w'→CtRes (w.alloc (.cells #[.int .i64 1,.int .i64 1,.string ⟨#[]⟩,.string ⟨#[]⟩,.int .i64 1,.int .i64 2,.string ⟨#[]⟩,.string ⟨#[]⟩,.int .i64 2,.int .i64 1,.string ⟨#[97]⟩,.string ⟨#[]⟩,.int .i64 2,.int .i64 2,.string ⟨#[97]⟩,.string ⟨#[]⟩,.int .i64 3,.int .i64 1,.string ⟨#[97]⟩,.string ⟨#[120]⟩,.int .i64 3,.int .i64 2,.string ⟨#[97]⟩,.string ⟨#[121]⟩,.int .i64 4,.int .i64 1,.string ⟨#[]⟩,.string ⟨#[]⟩,.int .i64 4,.int .i64 2,.string ⟨#[]⟩,.string ⟨#[]⟩] 53)) (c15 (TL15 K a b),0) e w'):=fun e w' h=>by
  have e1:needN sh15 (1,false,[],(0,0,0),[(1,1,2,4,5),(3,2,1,3,4)])=[3,4,5,6,7]:=need15
  rw [e1] at h
  exact h
 have DM:=hM.mono HM2.out
 have hrl:=root_32 ((TL15 K a b).map bytE)
 rw [hc] at DM HK l0 l1
 generalize hpl:[3,4,5,6,7].map (pfN15 (TL15 K a b))=PL at DM HK l0 l1
 have hplen:PL.length=5:=by rw [← hpl];rfl
 generalize rootL sumL ((TL15 K a b).map bytE)=rt at DM HK l0 l1 hrl
 have HL:=Lib.hid hplen
 have H0:=Lib.hid l0
 have H1:=Lib.hid l1
 clear O1 T1 hG hT hme hmc hM HM2 hpl hplen hc l0 l1 hK ha hb
 go_enter Tryz.func10,Tryz.ntmps10
 go_wp2_with fail
 refine DM.mono ?_
 rintro e w2 ⟨vo,vr,vp,rfl,b2,hC⟩
 obtain ⟨ap,cp,rfl,_⟩:=hC.proofs.len
 obtain ⟨ao,co,rfl,_⟩:=hC.order.some_at
 obtain ⟨ar,cr,rfl,_⟩:=hC.ring.some_at
 have B2:=bel_trans B1 b2
 simp only [HL.out] at hC ⊢
 dsimp only [v15,List.length_nil,List.length_cons] at hC ⊢
 have X:=SBox.new w2 30 #[.string ⟨#[116]⟩,.int .i64 1,.string ⟨#[]⟩,.string ⟨rt.toArray⟩,.int .i64 8,.int .i64 1,.bool false,.slice ao 0 co,.int .i64 0,.int .i64 0,.int .i64 0,.slice ar 2 cr,.slice ap 5 cp]
 have B3:=B2.alloc B2.size (.cells #[.string ⟨#[116]⟩,.int .i64 1,.string ⟨#[]⟩,.string ⟨rt.toArray⟩,.int .i64 8,.int .i64 1,.bool false,.slice ao 0 co,.int .i64 0,.int .i64 0,.int .i64 0,.slice ar 2 cr,.slice ap 5 cp] 30)
 have A3:=hC.below ((Below.refl w2.heap.size w2).alloc (Nat.le_refl _) (.cells #[.string ⟨#[116]⟩,.int .i64 1,.string ⟨#[]⟩,.string ⟨rt.toArray⟩,.int .i64 8,.int .i64 1,.bool false,.slice ao 0 co,.int .i64 0,.int .i64 0,.int .i64 0,.slice ar 2 cr,.slice ap 5 cp] 30))
 have K3:=HK.out _ B3 _ _ _ rt A3
 rw [H0.out] at K3
 have c0:=X.cell 0 _ rfl
 have c1:=X.cell 1 _ rfl
 have c2:=X.cell 2 _ rfl
 have c3:=X.cell 3 _ rfl
 have c4:=X.cell 4 _ rfl
 have c5:=X.cell 5 _ rfl
 have c6:=X.cell 6 _ rfl
 have c7:=X.cell 7 _ rfl
 have c8:=X.cell 8 _ rfl
 have c9:=X.cell 9 _ rfl
 have c10:=X.cell 10 _ rfl
 have c11:=X.cell 11 _ rfl
 have c12:=X.cell 12 _ rfl
 (try simp only [HL.out] at K3)
 dsimp only [v15,List.length_nil,List.length_cons] at K3
 have HA:=Lib.hid A3
 have HB:=Lib.hid B3
 have HX:=Lib.hid X
 clear hC DM B1 B2 B3 b2 A3 X
 go_upto_region 3 with fail
 go_wp2_with fail
 refine K3.mono ?_
 rintro e w4 ⟨rfl,b4⟩
 have B4:=bel_trans HB.out b4
 have A4:=HA.out.below b4
 have X4:=HX.out.below b4
 have K4:=HK.out _ B4 _ _ _ [120] A4
 rw [H1.out] at K4
 (try simp only [HL.out] at K4)
 (try dsimp only [v15,List.length_nil,List.length_cons] at K4)
 clear c0 c1 c2 c3 c4 c5 c6 c7 c8 c9 c10 c11 c12 K3 A4
 have c0:=X4.cell 0 _ rfl
 have c1:=X4.cell 1 _ rfl
 have c2:=X4.cell 2 _ rfl
 have c3:=X4.cell 3 _ rfl
 have c4:=X4.cell 4 _ rfl
 have c5:=X4.cell 5 _ rfl
 have c6:=X4.cell 6 _ rfl
 have c7:=X4.cell 7 _ rfl
 have c8:=X4.cell 8 _ rfl
 have c9:=X4.cell 9 _ rfl
 have c10:=X4.cell 10 _ rfl
 have c11:=X4.cell 11 _ rfl
 have c12:=X4.cell 12 _ rfl
 clear X4
 go_wp2_with fail
 refine K4.mono ?_
 rintro e w5 ⟨rfl,b5⟩
 go_wp2_with fail
 go_ret
 exact ⟨rfl,bel_trans B4 b5⟩
end Go.Proofs.YthamoeekiglphaaGreatDoor
