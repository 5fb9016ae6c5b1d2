/-
  What cartoucheref03.Path answers.
-/
import Derived.Test.YthamoeekiglphaaGreatDoorER3Top
namespace Go.Proofs.YthamoeekiglphaaGreatDoor
set_option maxRecDepth 100000
open Go.RowKit
set_option linter.unusedVariables false
attribute [local go_sem] ba_size
theorem owns_mono {w:World} {B B' e k n:Nat} {v:Value} {xs:List Value} (h:w.ownsRow B e k v n xs) (hb:B'≤B):w.ownsRow B' e k v n xs:=by
 obtain ⟨h1,h2⟩:=h;refine ⟨h1,?_⟩;rcases h2 with h2 | ⟨g,cap,cur,hv,hbg,r⟩
 ·exact .inl h2
 ·exact .inr ⟨g,cap,cur,hv,by omega,r⟩
theorem pathL_le (sm:List UInt8→List UInt8):∀ (l:List (List UInt8)) (i:Nat) {m:Nat},l.length≤m→(pathL sm l i).length≤m:=by
 have h:∀ (n:Nat) (l:List (List UInt8)) (i:Nat),l.length=n→(pathL sm l i).length≤l.length:=by
  intro n
  induction n using Nat.strongRecOn with
  | _ n ih =>
    intro l i hn
    by_cases h1:l.length≤1
    ·rw [pathL_one sm l i h1];simp
    ·have hlt:=hf_lt l.length (by omega)
     have hps:=hf_pos l.length
     by_cases hk:i < hf l.length
     ·rw [pathL_left sm l i (by omega) hk,List.length_append]
      have:=ih (l.take (hf l.length)).length (by rw [List.length_take];omega) (l.take (hf l.length)) i rfl;rw [List.length_take] at this;simp only [List.length_cons,List.length_nil];omega
     ·rw [pathL_right sm l i (by omega) hk,List.length_append]
      have:=ih (l.drop (hf l.length)).length (by rw [List.length_drop];omega) (l.drop (hf l.length)) (i - hf l.length) rfl;rw [List.length_drop] at this;simp only [List.length_cons,List.length_nil];omega
 intro l i m hm;exact Nat.le_trans (h l.length l i rfl) hm
set_option maxRecDepth 100000 in
set_option maxHeartbeats 2000000 in
theorem rpath_any:∀ (m:Nat) (ss:List (List UInt8)) (v:Value) (w:World) (i:Nat),ss.length=m→m≤4096→i < m→IsTxt w v ss →
 Calls Tryz.prog 27 #[v,.int .i64 i] w fun e w'=>∃ p,e=.returned (.tuple #[p,.int .i64 0])∧w'.ownsRow w.heap.size 9 1 p (pathL sumL ss i).length (strV (pathL sumL ss i))∧Below w.heap.size w w':=by
 obtain ⟨i0,hi,hz0,hz1,hz2⟩:=info_parts str_info;intro m
 induction m using Nat.strongRecOn with
 | _ m ih =>
   intro ss v w i hm hb him hT;obtain ⟨b,off,cap,rfl,hblt,hc1,hc2,hn,HC⟩:=hT.at (by omega);have i2:¬ (4096:Int) < (ss.length:Int):=by omega
   have i3:¬ (ss.length:Int)≤(i:Int):=by omega
   have i6:¬ (i:Int) < 0:=by omega
   by_cases h1:ss.length=1
   ·have HE:Hid (pathL sumL ss i=[]):=pathL_one sumL ss i (by omega)
    rw [h1] at i2 i3;rw [h1];clear ih hT HC;go_enter Tryz.func27,Tryz.ntmps27
    go_wp2_with fail
    go_ret2
    refine ⟨_,rfl,?_,Below.refl _ _⟩;rw [HE.out];exact World.ownsRow_nil _ _ _ _
   ·have hlt:=hf_lt ss.length (by omega)
    have hps:=hf_pos ss.length;have T1:=hT.take (hf ss.length) (by omega) (by omega);have T2:=hT.drop (hf ss.length) (by omega) (by omega);have hH:=fun w1=>rhalf_any ss.length (by omega) w1
    obtain ⟨k,hk⟩:∃ k,hf ss.length=k:=⟨_,rfl⟩;rw [hk] at hlt hps T1 T2 hH;have hnn:ss.length=m:=hm;rw [hnn] at hk;simp only [hnn] at hlt h1 hc1 hn hH T1 T2 i2 i3 ⊢;have i1:((m:Int)==1)=false:=by simp;omega
    have j2:(k:Int)≤(cap:Int):=by omega
    have j3:(k:Int)≤(m:Int):=by omega
    have j4:¬ cap=k:=by omega
    by_cases hik:i < k
    ·have I:=fun w1 h=>ih k (by omega) (ss.take k) (.slice (some ⟨b,off,none⟩) k cap) w1 i (by rw [List.length_take];omega) (by omega) (by omega) h
     have hC:=fun w1 h=>rcrown_any (ss.drop k) (.slice (some ⟨b,off+k,none⟩) (m - k) (cap - k)) w1 h
     have HE:Hid (pathL sumL ss i=pathL sumL (ss.take k) i++[crownL sumL (ss.drop k)]):=by
      have:=pathL_left sumL ss i (by omega) (by rw [hnn,hk];omega);rw [hnn,hk] at this;exact this
     have lc:=crownL_le sumL sumL_len (ss.drop k);obtain ⟨p,hp⟩:∃ p,pathL sumL (ss.take k) i=p:=⟨_,rfl⟩;obtain ⟨c,hc⟩:∃ c,crownL sumL (ss.drop k)=c:=⟨_,rfl⟩;rw [hp,hc] at HE;rw [hp] at I;rw [hc] at hC lc;have lp:p.length≤4096:=by rw [← hp];exact pathL_le sumL _ _ (by rw [List.length_take];omega)
     clear hp hc hnn hk ih hT HC hm;have i5:(i:Int) < (k:Int):=by omega
     go_enter Tryz.func27,Tryz.ntmps27
     go_wp2_with fail
     refine (hH w).mono ?_;rintro e w1 ⟨rfl,hb1⟩;go_wp2_with fail
     refine (I w1 (T1.below hb1)).mono ?_;rintro e w2 ⟨q,rfl,hq,hb2⟩;have hbw2:=bel_trans hb1 hb2;have hs2:=hbw2.size;go_wp2_with fail
     refine (hC w2 (T2.below hbw2)).mono ?_;rintro e w3 ⟨rfl,hb3⟩;have hbw3:=bel_trans hbw2 hb3;have hs3:=hbw3.size;have hown3:w3.ownsRow w.heap.size 9 1 q p.length (strV p):=owns_mono (owns_below hq hb3) hb1.size;clear hq I hC hH T1 T2;go_wp2_with (at_builtin;refine wpList_append_own _ rfl _ _ 45 rfl w.heap.size 9 i0 (.string ByteArray.empty) 1 16 Tryz.underlying45 hi hz0 hz1 hz2 rfl (by decide) _ _ _ rfl (hown3.alloc _) ⟨w3.heap.size,0,none⟩ 1 1 [.string ⟨c.toArray⟩] rfl rfl ?d1 ?d2 ?d3 ?d4 ?d5 ?_)
     case d1 =>
      intro j u hj
      match j,hj with
      | 0,hj=>simp at hj;subst hj;simp [Addr.add]
     case d2=>intro u hu;simp at hu;subst hu;rfl
     case d3=>unfold maxLen;omega
     case d4=>omega
     case d5=>simp;omega
     intro v' w4 hown4 hgrow4 _;have hbw4:Below w.heap.size w w4:=(hbw3.alloc hs3 _).grown hgrow4 (by simp;omega) (fun j hj=>(hown3.lt j hj).1)
     have HO:w4.ownsRow w.heap.size 9 1 v' (pathL sumL ss i).length (strV (pathL sumL ss i)):=by
      rw [HE.out,strV_snoc,List.length_append];exact hown4
     go_wp2_with fail
     go_ret2
     exact ⟨_,rfl,HO,hbw4⟩
    ·have z1:IntKind.i64.wrap ((i:Int) - (k:Int))=(i:Int) - (k:Int):=by rw [IntKind.wrap_i64];omega
     have I:=fun w1 h=>ih (m - k) (by omega) (ss.drop k) (.slice (some ⟨b,off+k,none⟩) (m - k) (cap - k)) w1 (i - k) (by rw [List.length_drop];omega) (by omega) (by omega) h
     have hC:=fun w1 h=>rcrown_any (ss.take k) (.slice (some ⟨b,off,none⟩) k cap) w1 h
     have HE:Hid (pathL sumL ss i=pathL sumL (ss.drop k) (i - k)++[crownL sumL (ss.take k)]):=by
      have:=pathL_right sumL ss i (by omega) (by rw [hnn,hk];omega);rw [hnn,hk] at this;exact this
     have lc:=crownL_le sumL sumL_len (ss.take k);obtain ⟨p,hp⟩:∃ p,pathL sumL (ss.drop k) (i - k)=p:=⟨_,rfl⟩;obtain ⟨c,hc⟩:∃ c,crownL sumL (ss.take k)=c:=⟨_,rfl⟩;rw [hp,hc] at HE;rw [hp] at I;rw [hc] at hC lc;have lp:p.length≤4096:=by rw [← hp];exact pathL_le sumL _ _ (by rw [List.length_drop];omega)
     rw [show (((i - k:Nat)):Int)=(i:Int) - (k:Int) by omega] at I;clear hp hc hnn hk ih hT HC hm;have i5:¬ (i:Int) < (k:Int):=by omega
     go_enter Tryz.func27,Tryz.ntmps27
     go_wp2_with fail
     refine (hH w).mono ?_;rintro e w1 ⟨rfl,hb1⟩;go_wp2_with fail
     refine (I w1 (T2.below hb1)).mono ?_;rintro e w2 ⟨q,rfl,hq,hb2⟩;have hbw2:=bel_trans hb1 hb2;have hs2:=hbw2.size;go_wp2_with fail
     refine (hC w2 (T1.below hbw2)).mono ?_;rintro e w3 ⟨rfl,hb3⟩;have hbw3:=bel_trans hbw2 hb3;have hs3:=hbw3.size;have hown3:w3.ownsRow w.heap.size 9 1 q p.length (strV p):=owns_mono (owns_below hq hb3) hb1.size;clear hq I hC hH T1 T2;go_wp2_with (at_builtin;refine wpList_append_own _ rfl _ _ 45 rfl w.heap.size 9 i0 (.string ByteArray.empty) 1 16 Tryz.underlying45 hi hz0 hz1 hz2 rfl (by decide) _ _ _ rfl (hown3.alloc _) ⟨w3.heap.size,0,none⟩ 1 1 [.string ⟨c.toArray⟩] rfl rfl ?d1 ?d2 ?d3 ?d4 ?d5 ?_)
     case d1 =>
      intro j u hj
      match j,hj with
      | 0,hj=>simp at hj;subst hj;simp [Addr.add]
     case d2=>intro u hu;simp at hu;subst hu;rfl
     case d3=>unfold maxLen;omega
     case d4=>omega
     case d5=>simp;omega
     intro v' w4 hown4 hgrow4 _;have hbw4:Below w.heap.size w w4:=(hbw3.alloc hs3 _).grown hgrow4 (by simp;omega) (fun j hj=>(hown3.lt j hj).1)
     have HO:w4.ownsRow w.heap.size 9 1 v' (pathL sumL ss i).length (strV (pathL sumL ss i)):=by
      rw [HE.out,strV_snoc,List.length_append];exact hown4
     go_wp2_with fail
     go_ret2
     exact ⟨_,rfl,HO,hbw4⟩
end Go.Proofs.YthamoeekiglphaaGreatDoor
