/-
  What cartoucheref10.All answers.
-/
import Derived.Test.YthamoeekiglphaaGreatDoorER8Keys
import Derived.Test.YthamoeekiglphaaGreatDoorEL1a
namespace Go.Proofs.YthamoeekiglphaaGreatDoor
set_option maxRecDepth 100000
open Go.RowKit
set_option linter.unusedVariables false
set_option linter.unusedSimpArgs false
attribute [local go_sem] ba_size
def Apart10 (r v:Value):Prop:=∀ g,v.ownBlock=some g→r.ownBlock≠some g
theorem apart_kept {W W':World} {B e k n:Nat} {r v:Value} {xs:List Value} (h:W.ownsRow B e k v n xs) (hg:W.grownBy W' r.ownBlock) (ha:Apart10 r v):W'.ownsRow B e k v n xs:=by
 refine h.kept hg ?_;cases hv:v.ownBlock with
 | none=>exact .inl rfl
 | some g=>exact .inr (fun e=>ha g hv (by rw [← e]))
theorem apart_new {W:World} {B e k n m:Nat} {r r' v:Value} {xs:List Value} (h:W.ownsRow B e k v n xs) (ha:Apart10 r v) (hm:W.heap.size≤m) (hat:r'.ownBlock=r.ownBlock∨r'.ownBlock=some m):Apart10 r' v:=by
 intro g hv hh;rcases hat with e | e
 ·exact ha g hv (by rw [← e];exact hh)
 ·rw [hh] at e
  have:=Option.some.inj e;have:=(h.lt g hv).2;omega
theorem apart_low {W W':World} {B e k e' k' n n':Nat} {r v:Value} {xs ys:List Value} (hr:W.ownsRow B e k r n xs) (hv:W'.ownsRow W.heap.size e' k' v n' ys):Apart10 r v:=by
 intro g h1 h2;have:=(hr.lt g h2).2;have:=(hv.lt g h1).1;omega
theorem cell_al10 {W:World} {a:Addr} {v:Value} (o:Obj) (h:W.cell? a=some v):(W.alloc o).cell? a=some v:=cell_bel ((Below.refl _ W).alloc (Nat.le_refl _) o) h
theorem recE_snoc (L:List Ed) (x:Ed):recV edV (L++[x])=recV edV L++[.int .i64 x.1,.int .i64 x.2.1,.int .i64 x.2.2.1,.int .i64 x.2.2.2.1,.int .i64 x.2.2.2.2]:=by rw [recV_append];rfl
theorem int_cell {W:World} {B e g n cap m:Nat} {L:List Nat} (h:W.ownsRow B e 1 (.slice (some ⟨g,0,none⟩) n cap) n (recV intV (L.map Int.ofNat))) (hn:n=L.length) (hm:m < L.length):W.cell? ⟨g,m,none⟩=some (.int .i64 ((vAt L m:Nat):Int)):=by
 have c:=h.cellAt m (by omega);have g:=recV_get intV_len (L.map Int.ofNat) m (by rw [List.length_map];exact hm) 0 (by omega);rw [Nat.mul_one,Nat.add_zero] at g;rw [c,g];unfold vAt;rw [List.getD_eq_getElem?_getD,List.getElem?_eq_getElem hm];simp [intV]
def loopsOf:Code→List Code
 | .loop c=>c::loopsOf c
 | .seq a b=>loopsOf a++loopsOf b
 | .block _ c=>loopsOf c
 | .scope c=>loopsOf c
 | .cond _ a b=>loopsOf a++loopsOf b
 | _=>[]
set_option maxRecDepth 1000000 in
set_option maxHeartbeats 16000000 in
theorem rall_events (h:List Ev) (w w1 wo wq:World) (a:Option Addr) (n cap:Nat) (h1:n≤cap) (h2:cap≤9223372036854775807) (h3:n≤140737488351232) (hle:n≤300) (HN:Hid (h.length=n))
 (HC:Hid (0 < h.length→∃ b off,a=some ⟨b,off,none⟩∧Hid (∀ j,j < h.length→∀ V:World,Below w.heap.size w V→V.cell? ⟨b,off+j*4,none⟩=some (.int .i64 (ev h j).1)∧V.cell? ⟨b,off+j*4+1,none⟩=some (.int .i64 (ev h j).2.1)∧V.cell? ⟨b,off+j*4+2,none⟩=some (.string ⟨(ev h j).2.2.1.toArray⟩)∧V.cell? ⟨b,off+j*4+3,none⟩=some (.string ⟨(ev h j).2.2.2.toArray⟩))))
 (CO:∀ (i:Int) (W:World),Below w.heap.size w W→Calls Tryz.prog 95 #[.slice a n cap,.int .i64 i] W fun e w'=>e=.returned (.bool (outerI h i))∧Below W.heap.size W w')
 (i0:TypeInfo) (hi:Tryz.prog.info? 32=some i0) (hz0:i0.zero=some (.agg #[.int .i64 0,.int .i64 0,.int .i64 0,.int .i64 0,.int .i64 0])) (hz1:i0.size=5) (hz2:i0.bytes=40)
 (bk:Below w.heap.size w w1) (g k K1 ck:Nat) (hck:K1≤ck) (hlt:k < K1) (key:List UInt8) (hgk:g < w1.heap.size) (ckey:w1.cell? ⟨g,k,none⟩=some (.string ⟨key.toArray⟩))
 (V:List Nat) (gv:Option Addr) (cv:Nat) (hcv:V.length≤cv) (hVn:V.length≤n) (HVL:Hid (∀ m,m < V.length→vAt V m < h.length)) (s0:w1.heap.size≤wo.heap.size)
 (E1:List Ed) (c':Nat) (hc1:c'≤270300) (HL2:Hid (E1.length=c')) (hbq:Below w1.heap.size w1 wq) (r0:Value) (hrowq:wq.ownsRow w1.heap.size 32 5 r0 c' (recV edV E1)) (vrowq:wq.ownsRow wo.heap.size 3 1 (.slice gv V.length cv) V.length (recV intV (V.map Int.ofNat))) (HAP:Hid (Apart10 r0 (.slice gv V.length cv)))
 (K:Act→World→Prop) (Q':Exit→Act→World→Prop) (HP:∀ x (b:Act) (d:Option Nat) (z:Value) (W:World),Q' (.panic x) (b.put d z) W→Q' (.panic x) b W) (c1 c2v c7 c12 c13 c14 c15 c16 c17 c18 c19 c20 c21 c22 c23 c24 c25 c26 c27 c28 c29 c30 c31 c32 c33 c34 c35 c36 c37 c38 c39 c40 c41 c42 c43 c44 c45 c46 c47 c48 c49 c50 c51 c52 c53 c54 c55 c56 c57 c58 c59 c60 c61 c62 c63 c64 c65 c66 c67 c68 c69 c70 c71 c72 c73 c74 c75 c76 c77 c78 c79 c80 c222 v9 v10 v11 v81 v82 v83 v84 v85 v86 v87 v88 v89 v90 v91 v92 v93 v94 v95 v96 v97 v98 v99 v100 v101 v102 v103 v104 v105 v106 v107 v108 v109 v110 v111 v112 v113 v114 v115 v116 v117 v118 v119 v120 v121 v122 v123 v124 v125 v126 v127 v128 v129 v130 v131 v132 v133 v134 v135 v136 v137 v138 v139 v140 v141 v142 v143 v144 v145 v146 v147 v148 v149 v150 v151 v152 v153 v154 v155 v156 v157 v158 v159 v160 v161 v162 v163 v164 v165 v166 v167 v168 v169 v170 v171 v172 v173 v174 v175 v176 v177 v178 v179 v180 v181 v182 v183 v184 v185 v186 v187 v188 v189 v190 v191 v192 v193 v194 v195 v196 v197 v198 v199 v200 v201 v202 v203 v204 v205 v206 v207 v208 v209 v210 v211 v212 v213 v214 v215 v216 v217 v218 v219 v220 v221:Value)
 (hexit:Hid (∀ (r:Value) (c2:Nat) (wb:World) (u9 u10 u11 u81 u82 u83 u84 u85 u86 u87 u88 u89 u90 u91 u92 u93 u94 u95 u96 u97 u98 u99 u100 u101 u102 u103 u104 u105 u106 u107 u108 u109 u110 u111 u112 u113 u114 u115 u116 u117 u118 u119 u120 u121 u122 u123 u124 u125 u126 u127 u128 u129 u130 u131 u132 u133 u134 u135 u136 u137 u138 u139 u140 u141 u142 u143 u144 u145 u146 u147 u148 u149 u150 u151 u152 u153 u154 u155 u156 u157 u158 u159 u160 u161 u162 u163 u164 u165 u166 u167 u168 u169 u170 u171 u172 u173 u174 u175 u176 u177 u178 u179 u180 u181 u182 u183 u184 u185 u186 u187 u188 u189 u190 u191 u192 u193 u194 u195 u196 u197 u198 u199 u200 u201 u202 u203 u204 u205 u206 u207 u208 u209 u210 u211 u212 u213 u214 u215 u216 u217 u218 u219 u220 u221:Value),c2≤c'+2*n→Hid ((E1++rTo h key V n).length=c2)→Below w1.heap.size w1 wb→wb.ownsRow w1.heap.size 32 5 r c2 (recV edV (E1++rTo h key V n))→K ⟨List.toArray (.slice a n cap::c1::c2v::r::.slice (some ⟨g,0,none⟩) K1 ck::.int .i64 (k:Int)::.slice gv V.length cv::c7::.int .i64 (n:Int)::u9::u10::u11::c12::c13::c14::c15::c16::c17::c18::c19::c20::c21::c22::c23::c24::c25::c26::c27::c28::c29::c30::c31::c32::c33::c34::c35::c36::c37::c38::c39::c40::c41::c42::c43::c44::c45::c46::c47::c48::c49::c50::c51::c52::c53::c54::c55::c56::c57::c58::c59::c60::c61::c62::c63::c64::c65::c66::c67::c68::c69::c70::c71::c72::c73::c74::c75::c76::c77::c78::c79::c80::u81::u82::u83::u84::u85::u86::u87::u88::u89::u90::u91::u92::u93::u94::u95::u96::u97::u98::u99::u100::u101::u102::u103::u104::u105::u106::u107::u108::u109::u110::u111::u112::u113::u114::u115::u116::u117::u118::u119::u120::u121::u122::u123::u124::u125::u126::u127::u128::u129::u130::u131::u132::u133::u134::u135::u136::u137::u138::u139::u140::u141::u142::u143::u144::u145::u146::u147::u148::u149::u150::u151::u152::u153::u154::u155::u156::u157::u158::u159::u160::u161::u162::u163::u164::u165::u166::u167::u168::u169::u170::u171::u172::u173::u174::u175::u176::u177::u178::u179::u180::u181::u182::u183::u184::u185::u186::u187::u188::u189::u190::u191::u192::u193::u194::u195::u196::u197::u198::u199::u200::u201::u202::u203::u204::u205::u206::u207::u208::u209::u210::u211::u212::u213::u214::u215::u216::u217::u218::u219::u220::u221::c222::[]),[]⟩ wb)) :
 Code.wp Tryz.prog (Code.loop (((Tryz.f63.body.map loopsOf).getD []).getD 2 .skip)) (Exit.inBlock 4 (Exit.inBlock 1 (Exit.then K Q'))) ⟨List.toArray (.slice a n cap::c1::c2v::r0::.slice (some ⟨g,0,none⟩) K1 ck::.int .i64 (k:Int)::.slice gv V.length cv::c7::.int .i64 0::v9::v10::v11::c12::c13::c14::c15::c16::c17::c18::c19::c20::c21::c22::c23::c24::c25::c26::c27::c28::c29::c30::c31::c32::c33::c34::c35::c36::c37::c38::c39::c40::c41::c42::c43::c44::c45::c46::c47::c48::c49::c50::c51::c52::c53::c54::c55::c56::c57::c58::c59::c60::c61::c62::c63::c64::c65::c66::c67::c68::c69::c70::c71::c72::c73::c74::c75::c76::c77::c78::c79::c80::v81::v82::v83::v84::v85::v86::v87::v88::v89::v90::v91::v92::v93::v94::v95::v96::v97::v98::v99::v100::v101::v102::v103::v104::v105::v106::v107::v108::v109::v110::v111::v112::v113::v114::v115::v116::v117::v118::v119::v120::v121::v122::v123::v124::v125::v126::v127::v128::v129::v130::v131::v132::v133::v134::v135::v136::v137::v138::v139::v140::v141::v142::v143::v144::v145::v146::v147::v148::v149::v150::v151::v152::v153::v154::v155::v156::v157::v158::v159::v160::v161::v162::v163::v164::v165::v166::v167::v168::v169::v170::v171::v172::v173::v174::v175::v176::v177::v178::v179::v180::v181::v182::v183::v184::v185::v186::v187::v188::v189::v190::v191::v192::v193::v194::v195::v196::v197::v198::v199::v200::v201::v202::v203::v204::v205::v206::v207::v208::v209::v210::v211::v212::v213::v214::v215::v216::v217::v218::v219::v220::v221::c222::[]),[]⟩ wq:=by
 have jk:(k:Int) < (K1:Int):=by omega
 have s1:=bk.size
 conv=>arg 2;arg 1;whnf
 go_loopw [3,8] (fun r i wb=>∃ (j c2:Nat),j≤n∧c2≤c'+2*j∧i=.int .i64 j∧Hid ((E1++rTo h key V j).length=c2)∧Below w1.heap.size w1 wb∧wb.ownsRow w1.heap.size 32 5 r c2 (recV edV (E1++rTo h key V j))∧wb.ownsRow wo.heap.size 3 1 (.slice gv V.length cv) V.length (recV intV (V.map Int.ofNat))∧Hid (Apart10 r (.slice gv V.length cv))) (fun _ i _=>n - (RowKit.intOf i).toNat)
 case atStart=>exact ⟨0,c',by omega,by omega,rfl,(by show _=_;rw [show rTo h key V 0=[] from rfl,List.append_nil];exact HL2.out),hbq,(by rw [show rTo h key V 0=[] from rfl,List.append_nil];exact hrowq),vrowq,HAP⟩
 case round =>
  obtain ⟨j,c2,hj,hc2,rfl,HL3,hbb,hrowb,vrowb,HAPb⟩:=hrel;obtain ⟨wb,rfl⟩:∃ x,x=wr:=⟨_,rfl⟩
  by_cases hjn:j < n
  ·have hj1:j < h.length:=by have:=HN.out;omega
   obtain ⟨bb,off,rfl,HQ⟩:=HC.out (by omega);have Bb:=bel_trans bk hbb;have CJ:=CO (j:Int) wb Bb;have HO:Hid (outerI h (j:Int)=outerB h j):=by show _=_;unfold outerI;rw [Int.toNat_natCast];simp
   rw [HO.out] at CJ;obtain ⟨ob,hob⟩:∃ b,outerB h j=b:=⟨_,rfl⟩;have HOB:Hid (outerB h j=ob):=hob;rw [hob] at CJ;clear hob HO;have jj:(j:Int) < (n:Int):=by omega
   have HRN:Hid (rTo h key V (j+1)=rTo h key V j++rOf h key V j):=rTo_next h key V j;go_wp2_with fail
   refine CJ.mono ?_;clear CJ;rintro e w4 ⟨rfl,b4⟩;have B4:=bel_trans hbb b4;have C4:=bel_trans bk B4;have hrow4:=owns_below hrowb b4;have vrow4:=owns_below vrowb b4;obtain ⟨y0,y1,y2,y3⟩:=HQ.out j hj1 _ C4;obtain ⟨⟨x0,x1,x2,x3⟩,hx⟩:∃ x,ev h j=x:=⟨_,rfl⟩;have HX:Hid (ev h j=(x0,x1,x2,x3)):=hx;rw [hx] at y0 y1 y2 y3;simp only at y0 y1 y2 y3;clear hx;have ckb:=(B4.cell (p:=⟨g,k,none⟩) hgk).trans ckey;have HRO:Hid (rOf h key V j=if (decide (x2=key)&&ob)=true then rdEdges h V j else []):=by show _=_;unfold rOf readOf;rw [HX.out,HOB.out]
   by_cases dk:x2=key
   ·cases ob with
    | false =>
      have HE:Hid (rTo h key V (j+1)=rTo h key V j):=by show _=_;rw [HRN.out,HRO.out,Bool.and_false,if_neg (by simp),List.append_nil]
      have e1:(x2 != key)=false:=by rw [dk];simp
      have e2:(x2==key)=true:=by rw [dk];simp
      clear dk HRN HRO;go_wp2_with fail
      go_quiet (fail)
      go_wp2_with fail
      refine ⟨⟨j+1,c2,by omega,by omega,by first | go_num | simp,by rw [HE.out];exact HL3.out,below_drewN B4 _,by rw [HE.out];exact hrow4,vrow4,HAPb⟩,by simp [RowKit.intOf];omega⟩
    | true =>
      have HE:Hid (rTo h key V (j+1)=rTo h key V j++rdEdges h V j):=by show _=_;rw [HRN.out,HRO.out,decide_eq_true dk,Bool.and_true,if_pos rfl]
      have e1:(x2 != key)=false:=by rw [dk];simp
      have e2:(x2==key)=true:=by rw [dk];simp
      clear dk HRN HRO;go_wp2_with fail
      go_quiet (fail)
      go_wp2_with fail
      generalize hw5:World.drewN _ _=w5;have B5:Below w1.heap.size w1 w5:=by rw [← hw5];exact below_drewN B4 _
      have hrow5:w5.ownsRow w1.heap.size 32 5 u3 c2 (recV edV (E1++rTo h key V j)):=by rw [← hw5];exact hrow4
      have vrow5:w5.ownsRow wo.heap.size 3 1 (.slice gv V.length cv) V.length (recV intV (V.map Int.ofNat)):=by rw [← hw5];exact vrow4
      clear hw5 y0 y1 y2 y3 ckb;go_loopw [10,11] (fun at_ i wc=>∃ m:Nat,m≤V.length∧i=.int .i64 ((m:Int) - 1)∧at_=.int .i64 (oI (fiF (isVer h V j) m V.length))∧Below w5.heap.size w5 wc) (fun _ i _=>(RowKit.intOf i+1).toNat)
      case atStart=>exact ⟨V.length,Nat.le_refl _,by first | rfl | go_num | simp,by rw [fiF_end];rfl,Below.refl _ _⟩
      case round =>
       obtain ⟨m,hm,rfl,rfl,hbc⟩:=hrel;obtain ⟨wc,rfl⟩:∃ x,x=wr:=⟨_,rfl⟩
       by_cases hm0:0 < m
       ·obtain ⟨m',rfl⟩:∃ m',m=m'+1:=⟨m - 1,by omega⟩
        have Bc:=bel_trans B5 hbc;have vrowc:=owns_below vrow5 hbc
        obtain ⟨g2,rfl⟩:∃ g2,gv=some ⟨g2,0,none⟩:=by
         rcases vrowc.2 with ⟨e,h0⟩ | ⟨g2,cp,cur,e,_⟩
         ·omega
         ·simp at e;exact ⟨g2,e.1⟩
        have m0:=int_cell vrowc rfl (show m' < V.length by omega);have p0:=HVL.out m' (by omega);have HP:Hid (isVer h V j m'=decide ((ev h (vAt V m')).2.2.2=x3)):=by show _=_;unfold isVer;rw [HX.out]
        have HFS:=Lib.hid (fiF_step (isVer h V j) m' V.length (by omega));have z3:=(HQ.out (vAt V m') p0 _ (bel_trans bk Bc)).2.2.2;have y3:=(HQ.out j hj1 _ (bel_trans bk Bc)).2.2.2;rw [HX.out] at y3;simp only at y3;obtain ⟨a0,ha0⟩:∃ x,vAt V m'=x:=⟨_,rfl⟩;rw [ha0] at m0 p0 HP z3;clear ha0;obtain ⟨u,hu⟩:∃ u,(ev h a0).2.2.2=u:=⟨_,rfl⟩;rw [hu] at HP z3;clear hu;have ja0:(a0:Int) < (n:Int):=by have:=HN.out;omega
        have jm:(m':Int) < (V.length:Int):=by omega
        have em:((m'+1:Nat):Int) - 1=(m':Int):=by omega
        rw [em];clear em
        by_cases dv:u=x3
        ·have e3:(u==x3)=true:=by rw [dv];simp
         have HF:Hid (fiF (isVer h V j) m' V.length=some m'):=by show _=_;rw [HFS.out,HP.out,if_pos (decide_eq_true dv)]
         clear dv HP HFS;go_wp2_with fail
         go_quiet (fail)
         go_wp2_with fail
         refine ⟨⟨m',by omega,by first | rfl | go_num | simp,by rw [HF.out];rfl,below_drewN hbc _⟩,by first | (simp [RowKit.intOf];done) | (simp [RowKit.intOf];omega)⟩
        ·have e3:(u==x3)=false:=beq_eq_false_iff_ne.2 dv
         have HF:Hid (fiF (isVer h V j) m' V.length=fiF (isVer h V j) (m'+1) V.length):=by show _=_;rw [HFS.out,HP.out,if_neg (by rw [decide_eq_false dv];simp)]
         clear dv HP HFS;go_wp2_with fail
         go_quiet (fail)
         go_wp2_with fail
         refine ⟨⟨m',by omega,by first | rfl | go_num | simp,by rw [HF.out],below_drewN hbc _⟩,by first | (simp [RowKit.intOf];done) | (simp [RowKit.intOf];omega)⟩
       ·obtain rfl:m=0:=by omega
        have Bc:=bel_trans B5 hbc;have vrowc:=owns_below vrow5 hbc;have hrowc:=owns_below hrow5 hbc;have Cc:=bel_trans bk Bc;have y1:=(HQ.out j hj1 _ Cc).2.1;have y3:=(HQ.out j hj1 _ Cc).2.2.2;rw [HX.out] at y1 y3;simp only at y1 y3;have HTJ:Hid (tx h j=x1):=by show (ev h j).2.1=_;rw [HX.out]
        rw [fiF_zero,← verAt_is];clear hm0 hm;rcases hv:verAt h V j with _ | m
        ·have HR0:Hid (rdEdges h V j=if x3=[] then oEdge h V j 0 else []):=by show _=_;unfold rdEdges;rw [hv,HX.out]
         simp only [oI];clear hv
         by_cases v0:x3=[]
         ·have ev1:x3.isEmpty=true:=by rw [v0];rfl
          have ev2:(x3 != [])=false:=by rw [v0];rfl
          have ev3:(x3==[])=true:=by rw [v0];rfl
          have HR1:Hid (rdEdges h V j=oEdge h V j 0):=by show _=_;rw [HR0.out,if_pos v0]
          have jw:IntKind.i64.wrap (-1+1)=0:=rfl;have jw0:IntKind.i64.wrap 0=0:=rfl;clear v0 HR0
          by_cases hl0:0 < V.length
          ·have jl:(0:Int) < (V.length:Int):=by omega
           obtain ⟨g2,rfl⟩:∃ g2,gv=some ⟨g2,0,none⟩:=by
            rcases vrowc.2 with ⟨e,h0⟩ | ⟨g2,cp,cur,e,_⟩
            ·omega
            ·simp at e;exact ⟨g2,e.1⟩
           have p1:=HVL.out (0) (hl0);obtain ⟨a1,ha1⟩:∃ x,vAt V (0)=x:=⟨_,rfl⟩;have HA1:Hid (vAt V (0)=a1):=ha1;rw [ha1] at p1;clear ha1;obtain ⟨t1,ht1⟩:∃ x,(ev h a1).2.1=x:=⟨_,rfl⟩;have HT1:Hid ((ev h a1).2.1=t1):=ht1;have HX1:Hid (tx h (vAt V (0))=t1):=by show _=_;rw [HA1.out];exact ht1
           clear ht1;have ja1:(a1:Int) < (n:Int):=by have:=HN.out;omega
           have m1:wc.cell? ⟨g2,0,none⟩=some (.int .i64 (a1:Int)):=by have e:=int_cell vrowc rfl (show 0 < V.length by omega);rw [HA1.out] at e;exact e
           have k1:wc.cell? ⟨bb,off+a1*4+1,none⟩=some (.int .i64 t1):=by have e:=(HQ.out a1 p1 _ (bel_trans bk Bc)).2.1;rw [HT1.out] at e;exact e
           by_cases tt:t1=x1
           ·have et:(t1 != x1)=false:=by rw [tt];simp
            have HRD:Hid (rdEdges h V j=[]):=by show _=_;rw [HR1.out];unfold oEdge;rw [HX1.out,HTJ.out,if_neg (fun hh=>hh.2 tt)]
            clear tt HR1;go_wp2_with fail
            go_quiet (fail)
            have HFin:Hid (E1++rTo h key V (j+1)=(E1++rTo h key V j)):=by show _=_;rw [HE.out,HRD.out];simp [List.append_assoc]
            go_wp2_with fail
            go_quiet (fail)
            go_wp2_with fail
            refine ⟨⟨j+1,c2,by omega,by omega,by first | go_num | simp,by show _=_;rw [HFin.out,HL3.out],(by first | exact below_drewN Bc _ | exact below_drewN (below_drewN Bc _) _),by rw [HFin.out];exact hrowc,vrowc,HAPb⟩,by simp [RowKit.intOf];omega⟩
           ·have et:(t1 != x1)=true:=by rw [bne_iff_ne];exact tt
            have HRD:Hid (rdEdges h V j=[(3,x1,t1,(j:Int),(a1:Int))]):=by show _=_;rw [HR1.out];unfold oEdge;rw [HX1.out,HTJ.out,if_pos ⟨hl0,tt⟩,HA1.out]
            clear tt HR1;go_wp2_with fail
            go_quiet (fail)
            have HFin:Hid (E1++rTo h key V (j+1)=(E1++rTo h key V j)++[(3,x1,t1,(j:Int),(a1:Int))]):=by show _=_;rw [HE.out,HRD.out];simp [List.append_assoc]
            go_wp2_with fail
            go_quiet (fail)
            go_wp2_with fail
            refine wp_region_any (by kernel_rfl) ?_;change wpAny _ _ _ _ _ _ _ (World.drew _);generalize hwd:World.drew _=wd;have hbd:Below w1.heap.size w1 wd:=by rw [← hwd];first | exact (below_drewN Bc _).drew | exact (below_drewN (below_drewN Bc _) _).drew
            have hrowd:wd.ownsRow w1.heap.size 32 5 u3 (c2) (recV edV ((E1++rTo h key V j))):=by rw [← hwd];exact hrowc
            have vrowd:wd.ownsRow wo.heap.size 3 1 (.slice (some ⟨g2,0,none⟩) V.length cv) V.length (recV intV (V.map Int.ofNat)):=by rw [← hwd];exact vrowc
            have n1:wd.cell? ⟨g2,0,none⟩=some (.int .i64 (a1:Int)):=by have e:=int_cell vrowd rfl (show 0 < V.length by omega);rw [HA1.out] at e;exact e
            have z1:wd.cell? ⟨bb,off+a1*4+1,none⟩=some (.int .i64 t1):=by have e:=(HQ.out a1 p1 _ (bel_trans bk hbd)).2.1;rw [HT1.out] at e;exact e
            have z2:wd.cell? ⟨bb,off+j*4+1,none⟩=some (.int .i64 x1):=by have e:=(HQ.out j hj1 _ (bel_trans bk hbd)).2.1;rw [HX.out] at e;exact e
            clear hwd;have sd:=hbd.size;refine any_of_C (C:=fun V=>V.cell? ⟨g2,0,none⟩=some (.int .i64 (a1:Int))∧V.cell? ⟨bb,off+a1*4+1,none⟩=some (.int .i64 t1)∧V.cell? ⟨bb,off+j*4+1,none⟩=some (.int .i64 x1)) 24 _ _ _ _ ?_;refine takeC (i:=0) (v:=u3) rfl (by kernel_rfl) (by kernel_rfl) (by kernel_rfl) (by kernel_rfl) (by kernel_rfl) (fun _ _ _ h=>HP _ _ _ _ _ h) (Or.inl ⟨by kernel_rfl,fun V hV=>by obtain ⟨r0,r1,r2⟩:=hV;go_simp⟩) ?_;refine takeC (i:=1) (v:=.slice (some ⟨bb,off,none⟩) n cap) rfl (by kernel_rfl) (by kernel_rfl) (by kernel_rfl) (by kernel_rfl) (by kernel_rfl) (fun _ _ _ h=>HP _ _ _ _ _ h) (Or.inl ⟨by kernel_rfl,fun V hV=>by obtain ⟨r0,r1,r2⟩:=hV;go_simp⟩) ?_;refine takeC (i:=2) (v:=.int .i64 (j:Int)) rfl (by kernel_rfl) (by kernel_rfl) (by kernel_rfl) (by kernel_rfl) (by kernel_rfl) (fun _ _ _ h=>HP _ _ _ _ _ h) (Or.inl ⟨by kernel_rfl,fun V hV=>by obtain ⟨r0,r1,r2⟩:=hV;go_simp⟩) ?_
            refine takeC (i:=3) (v:=.pointer (some ⟨bb,off+j*4,none⟩)) rfl (by kernel_rfl) (by kernel_rfl) (by kernel_rfl) (by kernel_rfl) (by kernel_rfl) (fun _ _ _ h=>HP _ _ _ _ _ h) (Or.inl ⟨by kernel_rfl,fun V hV=>by obtain ⟨r0,r1,r2⟩:=hV;go_simp⟩) ?_;refine takeC (i:=4) (v:=.pointer (some ⟨bb,off+j*4+1,none⟩)) rfl (by kernel_rfl) (by kernel_rfl) (by kernel_rfl) (by kernel_rfl) (by kernel_rfl) (fun _ _ _ h=>HP _ _ _ _ _ h) (Or.inl ⟨by kernel_rfl,fun V hV=>by obtain ⟨r0,r1,r2⟩:=hV;go_simp⟩) ?_;refine takeC (i:=5) (v:=.int .i64 x1) rfl (by kernel_rfl) (by kernel_rfl) (by kernel_rfl) (by kernel_rfl) (by kernel_rfl) (fun _ _ _ h=>HP _ _ _ _ _ h) (Or.inl ⟨by kernel_rfl,fun V hV=>by obtain ⟨r0,r1,r2⟩:=hV;go_simp⟩) ?_
            refine takeC (i:=6) (v:=.slice (some ⟨bb,off,none⟩) n cap) rfl (by kernel_rfl) (by kernel_rfl) (by kernel_rfl) (by kernel_rfl) (by kernel_rfl) (fun _ _ _ h=>HP _ _ _ _ _ h) (Or.inl ⟨by kernel_rfl,fun V hV=>by obtain ⟨r0,r1,r2⟩:=hV;go_simp⟩) ?_;refine takeC (i:=7) (v:=.slice (some ⟨g2,0,none⟩) V.length cv) rfl (by kernel_rfl) (by kernel_rfl) (by kernel_rfl) (by kernel_rfl) (by kernel_rfl) (fun _ _ _ h=>HP _ _ _ _ _ h) (Or.inl ⟨by kernel_rfl,fun V hV=>by obtain ⟨r0,r1,r2⟩:=hV;go_simp⟩) ?_;refine takeC (i:=8) (v:=.int .i64 (-1)) rfl (by kernel_rfl) (by kernel_rfl) (by kernel_rfl) (by kernel_rfl) (by kernel_rfl) (fun _ _ _ h=>HP _ _ _ _ _ h) (Or.inl ⟨by kernel_rfl,fun V hV=>by obtain ⟨r0,r1,r2⟩:=hV;go_simp⟩) ?_
            refine takeC (i:=9) (v:=.int .i64 0) rfl (by kernel_rfl) (by kernel_rfl) (by kernel_rfl) (by kernel_rfl) (by kernel_rfl) (fun _ _ _ h=>HP _ _ _ _ _ h) (Or.inl ⟨by kernel_rfl,fun V hV=>by obtain ⟨r0,r1,r2⟩:=hV;go_simp⟩) ?_;refine takeC (i:=10) (v:=.pointer (some ⟨g2,0,none⟩)) rfl (by kernel_rfl) (by kernel_rfl) (by kernel_rfl) (by kernel_rfl) (by kernel_rfl) (fun _ _ _ h=>HP _ _ _ _ _ h) (Or.inl ⟨by kernel_rfl,fun V hV=>by obtain ⟨r0,r1,r2⟩:=hV;go_simp⟩) ?_;refine takeC (i:=11) (v:=.int .i64 (a1:Int)) rfl (by kernel_rfl) (by kernel_rfl) (by kernel_rfl) (by kernel_rfl) (by kernel_rfl) (fun _ _ _ h=>HP _ _ _ _ _ h) (Or.inl ⟨by kernel_rfl,fun V hV=>by obtain ⟨r0,r1,r2⟩:=hV;go_simp⟩) ?_
            refine takeC (i:=12) (v:=.pointer (some ⟨bb,off+a1*4,none⟩)) rfl (by kernel_rfl) (by kernel_rfl) (by kernel_rfl) (by kernel_rfl) (by kernel_rfl) (fun _ _ _ h=>HP _ _ _ _ _ h) (Or.inl ⟨by kernel_rfl,fun V hV=>by obtain ⟨r0,r1,r2⟩:=hV;go_simp⟩) ?_;refine takeC (i:=13) (v:=.pointer (some ⟨bb,off+a1*4+1,none⟩)) rfl (by kernel_rfl) (by kernel_rfl) (by kernel_rfl) (by kernel_rfl) (by kernel_rfl) (fun _ _ _ h=>HP _ _ _ _ _ h) (Or.inl ⟨by kernel_rfl,fun V hV=>by obtain ⟨r0,r1,r2⟩:=hV;go_simp⟩) ?_;refine takeC (i:=14) (v:=.int .i64 t1) rfl (by kernel_rfl) (by kernel_rfl) (by kernel_rfl) (by kernel_rfl) (by kernel_rfl) (fun _ _ _ h=>HP _ _ _ _ _ h) (Or.inl ⟨by kernel_rfl,fun V hV=>by obtain ⟨r0,r1,r2⟩:=hV;go_simp⟩) ?_
            refine takeC (i:=15) (v:=.int .i64 (j:Int)) rfl (by kernel_rfl) (by kernel_rfl) (by kernel_rfl) (by kernel_rfl) (by kernel_rfl) (fun _ _ _ h=>HP _ _ _ _ _ h) (Or.inl ⟨by kernel_rfl,fun V hV=>by obtain ⟨r0,r1,r2⟩:=hV;go_simp⟩) ?_;refine takeC (i:=16) (v:=.slice (some ⟨g2,0,none⟩) V.length cv) rfl (by kernel_rfl) (by kernel_rfl) (by kernel_rfl) (by kernel_rfl) (by kernel_rfl) (fun _ _ _ h=>HP _ _ _ _ _ h) (Or.inl ⟨by kernel_rfl,fun V hV=>by obtain ⟨r0,r1,r2⟩:=hV;go_simp⟩) ?_;refine takeC (i:=17) (v:=.int .i64 (-1)) rfl (by kernel_rfl) (by kernel_rfl) (by kernel_rfl) (by kernel_rfl) (by kernel_rfl) (fun _ _ _ h=>HP _ _ _ _ _ h) (Or.inl ⟨by kernel_rfl,fun V hV=>by obtain ⟨r0,r1,r2⟩:=hV;go_simp⟩) ?_
            refine takeC (i:=18) (v:=.int .i64 0) rfl (by kernel_rfl) (by kernel_rfl) (by kernel_rfl) (by kernel_rfl) (by kernel_rfl) (fun _ _ _ h=>HP _ _ _ _ _ h) (Or.inl ⟨by kernel_rfl,fun V hV=>by obtain ⟨r0,r1,r2⟩:=hV;go_simp⟩) ?_;refine takeC (i:=19) (v:=.pointer (some ⟨g2,0,none⟩)) rfl (by kernel_rfl) (by kernel_rfl) (by kernel_rfl) (by kernel_rfl) (by kernel_rfl) (fun _ _ _ h=>HP _ _ _ _ _ h) (Or.inl ⟨by kernel_rfl,fun V hV=>by obtain ⟨r0,r1,r2⟩:=hV;go_simp⟩) ?_;refine takeC (i:=20) (v:=.int .i64 (a1:Int)) rfl (by kernel_rfl) (by kernel_rfl) (by kernel_rfl) (by kernel_rfl) (by kernel_rfl) (fun _ _ _ h=>HP _ _ _ _ _ h) (Or.inl ⟨by kernel_rfl,fun V hV=>by obtain ⟨r0,r1,r2⟩:=hV;go_simp⟩) ?_
            refine takeC (i:=21) (v:=.agg #[.int .i64 3,.int .i64 x1,.int .i64 t1,.int .i64 (j:Int),.int .i64 (a1:Int)]) rfl (by kernel_rfl) (by kernel_rfl) (by kernel_rfl) (by kernel_rfl) (by kernel_rfl) (fun _ _ _ h=>HP _ _ _ _ _ h) (Or.inl ⟨by kernel_rfl,fun V hV=>by obtain ⟨r0,r1,r2⟩:=hV;go_simp⟩) ?_;refine consC (i:=22) (by kernel_rfl) (by kernel_rfl) ⟨n1,z1,z2⟩ rfl (fun K hK=>?_);go_wp2_with fail
            refine consC (i:=23) (by kernel_rfl) (by kernel_rfl) ⟨cell_al10 _ n1,cell_al10 _ z1,cell_al10 _ z2⟩ rfl (fun K hK=>?_);refine wpList_append_own_at _ rfl _ _ 25 rfl w1.heap.size 32 i0 (.agg #[.int .i64 0,.int .i64 0,.int .i64 0,.int .i64 0,.int .i64 0]) 5 40 Tryz.underlying25 hi hz0 hz1 hz2 rfl (by decide) u3 _ _ rfl (hrowd.alloc _) ⟨wd.heap.size,0,none⟩ 1 1 [.int .i64 3,.int .i64 x1,.int .i64 t1,.int .i64 (j:Int),.int .i64 (a1:Int)] rfl rfl ?a1oa ?a2oa ?a3oa ?a4oa ?a5oa ?_
            case a1oa=>intro j u hj;match j,hj with
             | 0,hj=>simp at hj;subst hj;simp [Addr.add]
             | 1,hj=>simp at hj;subst hj;simp [Addr.add]
             | 2,hj=>simp at hj;subst hj;simp [Addr.add]
             | 3,hj=>simp at hj;subst hj;simp [Addr.add]
             | 4,hj=>simp at hj;subst hj;simp [Addr.add]
            case a2oa=>intro u hu;simp at hu;rcases hu with rfl | rfl | rfl | rfl | rfl<;>rfl
            case a3oa=>unfold maxLen;omega
            case a4oa=>omega
            case a5oa=>simp;omega
            intro r8 w8 hown8 hg8 _ hat8;have vrow8:=apart_kept (vrowd.alloc (.cells #[.int .i64 3,.int .i64 x1,.int .i64 t1,.int .i64 (j:Int),.int .i64 (a1:Int)] 32)) hg8 HAPb.out;have AP8:=Lib.hid (apart_new vrowd HAPb.out (show wd.heap.size≤wd.heap.size+1 by omega) (by simpa using hat8));have B8:Below w1.heap.size w1 w8:=(hbd.alloc hbd.size _).grown hg8 (by simp;omega) (fun j hj=>(hrowd.lt j hj).1);have f1:w8.cell? ⟨g2,0,none⟩=some (.int .i64 (a1:Int)):=by have e:=int_cell vrow8 rfl (show 0 < V.length by omega);rw [HA1.out] at e;exact e
            have f2:w8.cell? ⟨bb,off+a1*4+1,none⟩=some (.int .i64 t1):=by have e:=(HQ.out a1 p1 _ (bel_trans bk B8)).2.1;rw [HT1.out] at e;exact e
            have f3:w8.cell? ⟨bb,off+j*4+1,none⟩=some (.int .i64 x1):=by have e:=(HQ.out j hj1 _ (bel_trans bk B8)).2.1;rw [HX.out] at e;exact e
            go_wp2_with fail
            refine lastC (by kernel_rfl) (by kernel_rfl) ⟨f1,f2,f3⟩ (of_decide_eq_true (by kernel_rfl)) ?_;refine any_seqI [24] [_] _ _ _ rfl (by kernel_rfl) ?_;go_wp2_with fail
            refine ⟨⟨j+1,c2+1,by omega,by omega,by first | go_num | simp,by show _=_;rw [HFin.out,List.length_append,HL3.out];rfl,B8,by rw [HFin.out,recE_snoc];exact hown8,vrow8,AP8⟩,by simp [RowKit.intOf];omega⟩
          ·have jl:¬ (0:Int) < (V.length:Int):=by omega
           have HRD:Hid (rdEdges h V j=[]):=by show _=_;rw [HR1.out];unfold oEdge;rw [if_neg (fun hh=>hl0 hh.1)]
           clear HR1;go_wp2_with fail
           go_quiet (fail)
           have HFin:Hid (E1++rTo h key V (j+1)=(E1++rTo h key V j)):=by show _=_;rw [HE.out,HRD.out];simp [List.append_assoc]
           go_wp2_with fail
           go_quiet (fail)
           go_wp2_with fail
           refine ⟨⟨j+1,c2,by omega,by omega,by first | go_num | simp,by show _=_;rw [HFin.out,HL3.out],(by first | exact below_drewN Bc _ | exact below_drewN (below_drewN Bc _) _),by rw [HFin.out];exact hrowc,vrowc,HAPb⟩,by simp [RowKit.intOf];omega⟩
         ·have ev1:x3.isEmpty=false:=ne_nil7 x3 v0
          have ev2:(x3 != [])=true:=by rw [bne_iff_ne];exact v0
          have ev3:(x3==[])=false:=beq_eq_false_iff_ne.2 v0;have HRD:Hid (rdEdges h V j=[]):=by show _=_;rw [HR0.out,if_neg v0]
          have HFin:Hid (E1++rTo h key V (j+1)=(E1++rTo h key V j)):=by show _=_;rw [HE.out,HRD.out];simp
          clear v0 HR0;go_wp2_with fail
          refine ⟨⟨j+1,c2,by omega,by omega,by first | go_num | simp,by show _=_;rw [HFin.out,HL3.out],Bc,by rw [HFin.out];exact hrowc,vrowc,HAPb⟩,by simp [RowKit.intOf];omega⟩
        ·have hm:m < V.length:=((fi_some _ _ _).1 hv).1
         have HR0:Hid (rdEdges h V j=rEdge h V j m++oEdge h V j (m+1)):=by show _=_;unfold rdEdges;rw [hv]
         simp only [oI];clear hv;have jm:(m:Int) < (V.length:Int):=by omega
         have jm0:¬ (m:Int) < 0:=by omega
         have jm1:(0:Int)≤(m:Int):=by omega
         have jw:IntKind.i64.wrap ((m:Int)+1)=(m:Int)+1:=by rw [IntKind.wrap_i64];omega
         have jn:¬ (m:Int)+1 < 0:=by omega
         obtain ⟨g2,rfl⟩:∃ g2,gv=some ⟨g2,0,none⟩:=by
          rcases vrowc.2 with ⟨e,h0⟩ | ⟨g2,cp,cur,e,_⟩
          ·omega
          ·simp at e;exact ⟨g2,e.1⟩
         have p0:=HVL.out (m) (hm);obtain ⟨a0,ha0⟩:∃ x,vAt V (m)=x:=⟨_,rfl⟩;have HA0:Hid (vAt V (m)=a0):=ha0;rw [ha0] at p0;clear ha0;obtain ⟨t0,ht0⟩:∃ x,(ev h a0).2.1=x:=⟨_,rfl⟩;have HT0:Hid ((ev h a0).2.1=t0):=ht0;have HX0:Hid (tx h (vAt V (m))=t0):=by show _=_;rw [HA0.out];exact ht0
         clear ht0;have ja0:(a0:Int) < (n:Int):=by have:=HN.out;omega
         have m0:wc.cell? ⟨g2,m,none⟩=some (.int .i64 (a0:Int)):=by have e:=int_cell vrowc rfl (show m < V.length by omega);rw [HA0.out] at e;exact e
         have k0:wc.cell? ⟨bb,off+a0*4+1,none⟩=some (.int .i64 t0):=by have e:=(HQ.out a0 p0 _ Cc).2.1;rw [HT0.out] at e;exact e
         by_cases tr:t0=x1
         ·have er:(t0 != x1)=false:=by rw [tr];simp
          have HR1:Hid (rdEdges h V j=oEdge h V j (m+1)):=by show _=_;rw [HR0.out];unfold rEdge;rw [HX0.out,HTJ.out,if_pos tr,List.nil_append]
          clear tr HR0
          by_cases hl1:m+1 < V.length
          ·have jl:(m:Int)+1 < (V.length:Int):=by omega
           have p1:=HVL.out (m+1) (hl1);obtain ⟨a1,ha1⟩:∃ x,vAt V (m+1)=x:=⟨_,rfl⟩;have HA1:Hid (vAt V (m+1)=a1):=ha1;rw [ha1] at p1;clear ha1;obtain ⟨t1,ht1⟩:∃ x,(ev h a1).2.1=x:=⟨_,rfl⟩;have HT1:Hid ((ev h a1).2.1=t1):=ht1;have HX1:Hid (tx h (vAt V (m+1))=t1):=by show _=_;rw [HA1.out];exact ht1
           clear ht1;have ja1:(a1:Int) < (n:Int):=by have:=HN.out;omega
           have m1:wc.cell? ⟨g2,m+1,none⟩=some (.int .i64 (a1:Int)):=by have e:=int_cell vrowc rfl (show m+1 < V.length by omega);rw [HA1.out] at e;exact e
           have k1:wc.cell? ⟨bb,off+a1*4+1,none⟩=some (.int .i64 t1):=by have e:=(HQ.out a1 p1 _ (bel_trans bk Bc)).2.1;rw [HT1.out] at e;exact e
           by_cases tt:t1=x1
           ·have et:(t1 != x1)=false:=by rw [tt];simp
            have HRD:Hid (rdEdges h V j=[]):=by show _=_;rw [HR1.out];unfold oEdge;rw [HX1.out,HTJ.out,if_neg (fun hh=>hh.2 tt)]
            clear tt HR1;go_wp2_with fail
            go_quiet (fail)
            have HFin:Hid (E1++rTo h key V (j+1)=(E1++rTo h key V j)):=by show _=_;rw [HE.out,HRD.out];simp [List.append_assoc]
            go_wp2_with fail
            go_quiet (fail)
            go_wp2_with fail
            refine ⟨⟨j+1,c2,by omega,by omega,by first | go_num | simp,by show _=_;rw [HFin.out,HL3.out],(by first | exact below_drewN Bc _ | exact below_drewN (below_drewN Bc _) _),by rw [HFin.out];exact hrowc,vrowc,HAPb⟩,by simp [RowKit.intOf];omega⟩
           ·have et:(t1 != x1)=true:=by rw [bne_iff_ne];exact tt
            have HRD:Hid (rdEdges h V j=[(3,x1,t1,(j:Int),(a1:Int))]):=by show _=_;rw [HR1.out];unfold oEdge;rw [HX1.out,HTJ.out,if_pos ⟨hl1,tt⟩,HA1.out]
            clear tt HR1;go_wp2_with fail
            go_quiet (fail)
            have HFin:Hid (E1++rTo h key V (j+1)=(E1++rTo h key V j)++[(3,x1,t1,(j:Int),(a1:Int))]):=by show _=_;rw [HE.out,HRD.out];simp [List.append_assoc]
            go_wp2_with fail
            go_quiet (fail)
            go_wp2_with fail
            refine wp_region_any (by kernel_rfl) ?_;change wpAny _ _ _ _ _ _ _ (World.drew _);generalize hwd:World.drew _=wd;have hbd:Below w1.heap.size w1 wd:=by rw [← hwd];first | exact (below_drewN Bc _).drew | exact (below_drewN (below_drewN Bc _) _).drew
            have hrowd:wd.ownsRow w1.heap.size 32 5 u3 (c2) (recV edV ((E1++rTo h key V j))):=by rw [← hwd];exact hrowc
            have vrowd:wd.ownsRow wo.heap.size 3 1 (.slice (some ⟨g2,0,none⟩) V.length cv) V.length (recV intV (V.map Int.ofNat)):=by rw [← hwd];exact vrowc
            have n1:wd.cell? ⟨g2,m+1,none⟩=some (.int .i64 (a1:Int)):=by have e:=int_cell vrowd rfl (show m+1 < V.length by omega);rw [HA1.out] at e;exact e
            have z1:wd.cell? ⟨bb,off+a1*4+1,none⟩=some (.int .i64 t1):=by have e:=(HQ.out a1 p1 _ (bel_trans bk hbd)).2.1;rw [HT1.out] at e;exact e
            have z2:wd.cell? ⟨bb,off+j*4+1,none⟩=some (.int .i64 x1):=by have e:=(HQ.out j hj1 _ (bel_trans bk hbd)).2.1;rw [HX.out] at e;exact e
            clear hwd;have sd:=hbd.size;refine any_of_C (C:=fun V=>V.cell? ⟨g2,m+1,none⟩=some (.int .i64 (a1:Int))∧V.cell? ⟨bb,off+a1*4+1,none⟩=some (.int .i64 t1)∧V.cell? ⟨bb,off+j*4+1,none⟩=some (.int .i64 x1)) 24 _ _ _ _ ?_;refine takeC (i:=0) (v:=u3) rfl (by kernel_rfl) (by kernel_rfl) (by kernel_rfl) (by kernel_rfl) (by kernel_rfl) (fun _ _ _ h=>HP _ _ _ _ _ h) (Or.inl ⟨by kernel_rfl,fun V hV=>by obtain ⟨r0,r1,r2⟩:=hV;go_simp⟩) ?_;refine takeC (i:=1) (v:=.slice (some ⟨bb,off,none⟩) n cap) rfl (by kernel_rfl) (by kernel_rfl) (by kernel_rfl) (by kernel_rfl) (by kernel_rfl) (fun _ _ _ h=>HP _ _ _ _ _ h) (Or.inl ⟨by kernel_rfl,fun V hV=>by obtain ⟨r0,r1,r2⟩:=hV;go_simp⟩) ?_;refine takeC (i:=2) (v:=.int .i64 (j:Int)) rfl (by kernel_rfl) (by kernel_rfl) (by kernel_rfl) (by kernel_rfl) (by kernel_rfl) (fun _ _ _ h=>HP _ _ _ _ _ h) (Or.inl ⟨by kernel_rfl,fun V hV=>by obtain ⟨r0,r1,r2⟩:=hV;go_simp⟩) ?_
            refine takeC (i:=3) (v:=.pointer (some ⟨bb,off+j*4,none⟩)) rfl (by kernel_rfl) (by kernel_rfl) (by kernel_rfl) (by kernel_rfl) (by kernel_rfl) (fun _ _ _ h=>HP _ _ _ _ _ h) (Or.inl ⟨by kernel_rfl,fun V hV=>by obtain ⟨r0,r1,r2⟩:=hV;go_simp⟩) ?_;refine takeC (i:=4) (v:=.pointer (some ⟨bb,off+j*4+1,none⟩)) rfl (by kernel_rfl) (by kernel_rfl) (by kernel_rfl) (by kernel_rfl) (by kernel_rfl) (fun _ _ _ h=>HP _ _ _ _ _ h) (Or.inl ⟨by kernel_rfl,fun V hV=>by obtain ⟨r0,r1,r2⟩:=hV;go_simp⟩) ?_;refine takeC (i:=5) (v:=.int .i64 x1) rfl (by kernel_rfl) (by kernel_rfl) (by kernel_rfl) (by kernel_rfl) (by kernel_rfl) (fun _ _ _ h=>HP _ _ _ _ _ h) (Or.inl ⟨by kernel_rfl,fun V hV=>by obtain ⟨r0,r1,r2⟩:=hV;go_simp⟩) ?_
            refine takeC (i:=6) (v:=.slice (some ⟨bb,off,none⟩) n cap) rfl (by kernel_rfl) (by kernel_rfl) (by kernel_rfl) (by kernel_rfl) (by kernel_rfl) (fun _ _ _ h=>HP _ _ _ _ _ h) (Or.inl ⟨by kernel_rfl,fun V hV=>by obtain ⟨r0,r1,r2⟩:=hV;go_simp⟩) ?_;refine takeC (i:=7) (v:=.slice (some ⟨g2,0,none⟩) V.length cv) rfl (by kernel_rfl) (by kernel_rfl) (by kernel_rfl) (by kernel_rfl) (by kernel_rfl) (fun _ _ _ h=>HP _ _ _ _ _ h) (Or.inl ⟨by kernel_rfl,fun V hV=>by obtain ⟨r0,r1,r2⟩:=hV;go_simp⟩) ?_;refine takeC (i:=8) (v:=.int .i64 (m:Int)) rfl (by kernel_rfl) (by kernel_rfl) (by kernel_rfl) (by kernel_rfl) (by kernel_rfl) (fun _ _ _ h=>HP _ _ _ _ _ h) (Or.inl ⟨by kernel_rfl,fun V hV=>by obtain ⟨r0,r1,r2⟩:=hV;go_simp⟩) ?_
            refine takeC (i:=9) (v:=.int .i64 ((m:Int)+1)) rfl (by kernel_rfl) (by kernel_rfl) (by kernel_rfl) (by kernel_rfl) (by kernel_rfl) (fun _ _ _ h=>HP _ _ _ _ _ h) (Or.inl ⟨by kernel_rfl,fun V hV=>by obtain ⟨r0,r1,r2⟩:=hV;go_simp⟩) ?_;refine takeC (i:=10) (v:=.pointer (some ⟨g2,m+1,none⟩)) rfl (by kernel_rfl) (by kernel_rfl) (by kernel_rfl) (by kernel_rfl) (by kernel_rfl) (fun _ _ _ h=>HP _ _ _ _ _ h) (Or.inl ⟨by kernel_rfl,fun V hV=>by obtain ⟨r0,r1,r2⟩:=hV;go_simp⟩) ?_;refine takeC (i:=11) (v:=.int .i64 (a1:Int)) rfl (by kernel_rfl) (by kernel_rfl) (by kernel_rfl) (by kernel_rfl) (by kernel_rfl) (fun _ _ _ h=>HP _ _ _ _ _ h) (Or.inl ⟨by kernel_rfl,fun V hV=>by obtain ⟨r0,r1,r2⟩:=hV;go_simp⟩) ?_
            refine takeC (i:=12) (v:=.pointer (some ⟨bb,off+a1*4,none⟩)) rfl (by kernel_rfl) (by kernel_rfl) (by kernel_rfl) (by kernel_rfl) (by kernel_rfl) (fun _ _ _ h=>HP _ _ _ _ _ h) (Or.inl ⟨by kernel_rfl,fun V hV=>by obtain ⟨r0,r1,r2⟩:=hV;go_simp⟩) ?_;refine takeC (i:=13) (v:=.pointer (some ⟨bb,off+a1*4+1,none⟩)) rfl (by kernel_rfl) (by kernel_rfl) (by kernel_rfl) (by kernel_rfl) (by kernel_rfl) (fun _ _ _ h=>HP _ _ _ _ _ h) (Or.inl ⟨by kernel_rfl,fun V hV=>by obtain ⟨r0,r1,r2⟩:=hV;go_simp⟩) ?_;refine takeC (i:=14) (v:=.int .i64 t1) rfl (by kernel_rfl) (by kernel_rfl) (by kernel_rfl) (by kernel_rfl) (by kernel_rfl) (fun _ _ _ h=>HP _ _ _ _ _ h) (Or.inl ⟨by kernel_rfl,fun V hV=>by obtain ⟨r0,r1,r2⟩:=hV;go_simp⟩) ?_
            refine takeC (i:=15) (v:=.int .i64 (j:Int)) rfl (by kernel_rfl) (by kernel_rfl) (by kernel_rfl) (by kernel_rfl) (by kernel_rfl) (fun _ _ _ h=>HP _ _ _ _ _ h) (Or.inl ⟨by kernel_rfl,fun V hV=>by obtain ⟨r0,r1,r2⟩:=hV;go_simp⟩) ?_;refine takeC (i:=16) (v:=.slice (some ⟨g2,0,none⟩) V.length cv) rfl (by kernel_rfl) (by kernel_rfl) (by kernel_rfl) (by kernel_rfl) (by kernel_rfl) (fun _ _ _ h=>HP _ _ _ _ _ h) (Or.inl ⟨by kernel_rfl,fun V hV=>by obtain ⟨r0,r1,r2⟩:=hV;go_simp⟩) ?_;refine takeC (i:=17) (v:=.int .i64 (m:Int)) rfl (by kernel_rfl) (by kernel_rfl) (by kernel_rfl) (by kernel_rfl) (by kernel_rfl) (fun _ _ _ h=>HP _ _ _ _ _ h) (Or.inl ⟨by kernel_rfl,fun V hV=>by obtain ⟨r0,r1,r2⟩:=hV;go_simp⟩) ?_
            refine takeC (i:=18) (v:=.int .i64 ((m:Int)+1)) rfl (by kernel_rfl) (by kernel_rfl) (by kernel_rfl) (by kernel_rfl) (by kernel_rfl) (fun _ _ _ h=>HP _ _ _ _ _ h) (Or.inl ⟨by kernel_rfl,fun V hV=>by obtain ⟨r0,r1,r2⟩:=hV;go_simp⟩) ?_;refine takeC (i:=19) (v:=.pointer (some ⟨g2,m+1,none⟩)) rfl (by kernel_rfl) (by kernel_rfl) (by kernel_rfl) (by kernel_rfl) (by kernel_rfl) (fun _ _ _ h=>HP _ _ _ _ _ h) (Or.inl ⟨by kernel_rfl,fun V hV=>by obtain ⟨r0,r1,r2⟩:=hV;go_simp⟩) ?_;refine takeC (i:=20) (v:=.int .i64 (a1:Int)) rfl (by kernel_rfl) (by kernel_rfl) (by kernel_rfl) (by kernel_rfl) (by kernel_rfl) (fun _ _ _ h=>HP _ _ _ _ _ h) (Or.inl ⟨by kernel_rfl,fun V hV=>by obtain ⟨r0,r1,r2⟩:=hV;go_simp⟩) ?_
            refine takeC (i:=21) (v:=.agg #[.int .i64 3,.int .i64 x1,.int .i64 t1,.int .i64 (j:Int),.int .i64 (a1:Int)]) rfl (by kernel_rfl) (by kernel_rfl) (by kernel_rfl) (by kernel_rfl) (by kernel_rfl) (fun _ _ _ h=>HP _ _ _ _ _ h) (Or.inl ⟨by kernel_rfl,fun V hV=>by obtain ⟨r0,r1,r2⟩:=hV;go_simp⟩) ?_;refine consC (i:=22) (by kernel_rfl) (by kernel_rfl) ⟨n1,z1,z2⟩ rfl (fun K hK=>?_);go_wp2_with fail
            refine consC (i:=23) (by kernel_rfl) (by kernel_rfl) ⟨cell_al10 _ n1,cell_al10 _ z1,cell_al10 _ z2⟩ rfl (fun K hK=>?_);refine wpList_append_own_at _ rfl _ _ 25 rfl w1.heap.size 32 i0 (.agg #[.int .i64 0,.int .i64 0,.int .i64 0,.int .i64 0,.int .i64 0]) 5 40 Tryz.underlying25 hi hz0 hz1 hz2 rfl (by decide) u3 _ _ rfl (hrowd.alloc _) ⟨wd.heap.size,0,none⟩ 1 1 [.int .i64 3,.int .i64 x1,.int .i64 t1,.int .i64 (j:Int),.int .i64 (a1:Int)] rfl rfl ?a1ob ?a2ob ?a3ob ?a4ob ?a5ob ?_
            case a1ob=>intro j u hj;match j,hj with
             | 0,hj=>simp at hj;subst hj;simp [Addr.add]
             | 1,hj=>simp at hj;subst hj;simp [Addr.add]
             | 2,hj=>simp at hj;subst hj;simp [Addr.add]
             | 3,hj=>simp at hj;subst hj;simp [Addr.add]
             | 4,hj=>simp at hj;subst hj;simp [Addr.add]
            case a2ob=>intro u hu;simp at hu;rcases hu with rfl | rfl | rfl | rfl | rfl<;>rfl
            case a3ob=>unfold maxLen;omega
            case a4ob=>omega
            case a5ob=>simp;omega
            intro r8 w8 hown8 hg8 _ hat8;have vrow8:=apart_kept (vrowd.alloc (.cells #[.int .i64 3,.int .i64 x1,.int .i64 t1,.int .i64 (j:Int),.int .i64 (a1:Int)] 32)) hg8 HAPb.out;have AP8:=Lib.hid (apart_new vrowd HAPb.out (show wd.heap.size≤wd.heap.size+1 by omega) (by simpa using hat8));have B8:Below w1.heap.size w1 w8:=(hbd.alloc hbd.size _).grown hg8 (by simp;omega) (fun j hj=>(hrowd.lt j hj).1);have f1:w8.cell? ⟨g2,m+1,none⟩=some (.int .i64 (a1:Int)):=by have e:=int_cell vrow8 rfl (show m+1 < V.length by omega);rw [HA1.out] at e;exact e
            have f2:w8.cell? ⟨bb,off+a1*4+1,none⟩=some (.int .i64 t1):=by have e:=(HQ.out a1 p1 _ (bel_trans bk B8)).2.1;rw [HT1.out] at e;exact e
            have f3:w8.cell? ⟨bb,off+j*4+1,none⟩=some (.int .i64 x1):=by have e:=(HQ.out j hj1 _ (bel_trans bk B8)).2.1;rw [HX.out] at e;exact e
            go_wp2_with fail
            refine lastC (by kernel_rfl) (by kernel_rfl) ⟨f1,f2,f3⟩ (of_decide_eq_true (by kernel_rfl)) ?_;refine any_seqI [24] [_] _ _ _ rfl (by kernel_rfl) ?_;go_wp2_with fail
            refine ⟨⟨j+1,c2+1,by omega,by omega,by first | go_num | simp,by show _=_;rw [HFin.out,List.length_append,HL3.out];rfl,B8,by rw [HFin.out,recE_snoc];exact hown8,vrow8,AP8⟩,by simp [RowKit.intOf];omega⟩
          ·have jl:¬ (m:Int)+1 < (V.length:Int):=by omega
           have jd:decide ((m:Int)+1 < (V.length:Int))=false:=decide_eq_false jl;have HRD:Hid (rdEdges h V j=[]):=by show _=_;rw [HR1.out];unfold oEdge;rw [if_neg (fun hh=>hl1 hh.1)]
           clear HR1;go_wp2_with fail
           go_quiet (fail)
           have HFin:Hid (E1++rTo h key V (j+1)=(E1++rTo h key V j)):=by show _=_;rw [HE.out,HRD.out];simp [List.append_assoc]
           go_wp2_with fail
           go_quiet (fail)
           go_wp2_with fail
           refine ⟨⟨j+1,c2,by omega,by omega,by first | go_num | simp,by show _=_;rw [HFin.out,HL3.out],(by first | exact below_drewN Bc _ | exact below_drewN (below_drewN Bc _) _),by rw [HFin.out];exact hrowc,vrowc,HAPb⟩,by simp [RowKit.intOf];omega⟩
         ·have er:(t0 != x1)=true:=by rw [bne_iff_ne];exact tr
          have HR1:Hid (rdEdges h V j=[(2,t0,x1,(a0:Int),(j:Int))]++oEdge h V j (m+1)):=by show _=_;rw [HR0.out];unfold rEdge;rw [HX0.out,HTJ.out,if_neg tr,HA0.out]
          clear tr HR0;go_wp2_with fail
          go_quiet (fail)
          go_wp2_with fail
          refine wp_region_any (by kernel_rfl) ?_;change wpAny _ _ _ _ _ _ _ (World.drew _);generalize hwe:World.drew _=we;have hbe:Below w1.heap.size w1 we:=by rw [← hwe];exact (below_drewN Bc _).drew
          have hrowe:we.ownsRow w1.heap.size 32 5 u3 c2 (recV edV (E1++rTo h key V j)):=by rw [← hwe];exact hrowc
          have vrowe:we.ownsRow wo.heap.size 3 1 (.slice (some ⟨g2,0,none⟩) V.length cv) V.length (recV intV (V.map Int.ofNat)):=by rw [← hwe];exact vrowc
          have n0:we.cell? ⟨g2,m,none⟩=some (.int .i64 (a0:Int)):=by rw [← hwe];exact m0
          have z0:we.cell? ⟨bb,off+a0*4+1,none⟩=some (.int .i64 t0):=by rw [← hwe];exact k0
          have z1:we.cell? ⟨bb,off+j*4+1,none⟩=some (.int .i64 x1):=by rw [← hwe];exact y1
          clear hwe;have se:=hbe.size;refine any_of_C (C:=fun V=>V.cell? ⟨g2,m,none⟩=some (.int .i64 (a0:Int))∧V.cell? ⟨bb,off+a0*4+1,none⟩=some (.int .i64 t0)∧V.cell? ⟨bb,off+j*4+1,none⟩=some (.int .i64 x1)) 22 _ _ _ _ ?_;refine takeC (i:=0) (v:=u3) rfl (by kernel_rfl) (by kernel_rfl) (by kernel_rfl) (by kernel_rfl) (by kernel_rfl) (fun _ _ _ h=>HP _ _ _ _ _ h) (Or.inl ⟨by kernel_rfl,fun V hV=>by obtain ⟨r0,r1,r2⟩:=hV;go_simp⟩) ?_;refine takeC (i:=1) (v:=.slice (some ⟨bb,off,none⟩) n cap) rfl (by kernel_rfl) (by kernel_rfl) (by kernel_rfl) (by kernel_rfl) (by kernel_rfl) (fun _ _ _ h=>HP _ _ _ _ _ h) (Or.inl ⟨by kernel_rfl,fun V hV=>by obtain ⟨r0,r1,r2⟩:=hV;go_simp⟩) ?_;refine takeC (i:=2) (v:=.slice (some ⟨g2,0,none⟩) V.length cv) rfl (by kernel_rfl) (by kernel_rfl) (by kernel_rfl) (by kernel_rfl) (by kernel_rfl) (fun _ _ _ h=>HP _ _ _ _ _ h) (Or.inl ⟨by kernel_rfl,fun V hV=>by obtain ⟨r0,r1,r2⟩:=hV;go_simp⟩) ?_
          refine takeC (i:=3) (v:=.int .i64 (m:Int)) rfl (by kernel_rfl) (by kernel_rfl) (by kernel_rfl) (by kernel_rfl) (by kernel_rfl) (fun _ _ _ h=>HP _ _ _ _ _ h) (Or.inl ⟨by kernel_rfl,fun V hV=>by obtain ⟨r0,r1,r2⟩:=hV;go_simp⟩) ?_;refine takeC (i:=4) (v:=.pointer (some ⟨g2,m,none⟩)) rfl (by kernel_rfl) (by kernel_rfl) (by kernel_rfl) (by kernel_rfl) (by kernel_rfl) (fun _ _ _ h=>HP _ _ _ _ _ h) (Or.inl ⟨by kernel_rfl,fun V hV=>by obtain ⟨r0,r1,r2⟩:=hV;go_simp⟩) ?_;refine takeC (i:=5) (v:=.int .i64 (a0:Int)) rfl (by kernel_rfl) (by kernel_rfl) (by kernel_rfl) (by kernel_rfl) (by kernel_rfl) (fun _ _ _ h=>HP _ _ _ _ _ h) (Or.inl ⟨by kernel_rfl,fun V hV=>by obtain ⟨r0,r1,r2⟩:=hV;go_simp⟩) ?_
          refine takeC (i:=6) (v:=.pointer (some ⟨bb,off+a0*4,none⟩)) rfl (by kernel_rfl) (by kernel_rfl) (by kernel_rfl) (by kernel_rfl) (by kernel_rfl) (fun _ _ _ h=>HP _ _ _ _ _ h) (Or.inl ⟨by kernel_rfl,fun V hV=>by obtain ⟨r0,r1,r2⟩:=hV;go_simp⟩) ?_;refine takeC (i:=7) (v:=.pointer (some ⟨bb,off+a0*4+1,none⟩)) rfl (by kernel_rfl) (by kernel_rfl) (by kernel_rfl) (by kernel_rfl) (by kernel_rfl) (fun _ _ _ h=>HP _ _ _ _ _ h) (Or.inl ⟨by kernel_rfl,fun V hV=>by obtain ⟨r0,r1,r2⟩:=hV;go_simp⟩) ?_;refine takeC (i:=8) (v:=.int .i64 t0) rfl (by kernel_rfl) (by kernel_rfl) (by kernel_rfl) (by kernel_rfl) (by kernel_rfl) (fun _ _ _ h=>HP _ _ _ _ _ h) (Or.inl ⟨by kernel_rfl,fun V hV=>by obtain ⟨r0,r1,r2⟩:=hV;go_simp⟩) ?_
          refine takeC (i:=9) (v:=.slice (some ⟨bb,off,none⟩) n cap) rfl (by kernel_rfl) (by kernel_rfl) (by kernel_rfl) (by kernel_rfl) (by kernel_rfl) (fun _ _ _ h=>HP _ _ _ _ _ h) (Or.inl ⟨by kernel_rfl,fun V hV=>by obtain ⟨r0,r1,r2⟩:=hV;go_simp⟩) ?_;refine takeC (i:=10) (v:=.int .i64 (j:Int)) rfl (by kernel_rfl) (by kernel_rfl) (by kernel_rfl) (by kernel_rfl) (by kernel_rfl) (fun _ _ _ h=>HP _ _ _ _ _ h) (Or.inl ⟨by kernel_rfl,fun V hV=>by obtain ⟨r0,r1,r2⟩:=hV;go_simp⟩) ?_;refine takeC (i:=11) (v:=.pointer (some ⟨bb,off+j*4,none⟩)) rfl (by kernel_rfl) (by kernel_rfl) (by kernel_rfl) (by kernel_rfl) (by kernel_rfl) (fun _ _ _ h=>HP _ _ _ _ _ h) (Or.inl ⟨by kernel_rfl,fun V hV=>by obtain ⟨r0,r1,r2⟩:=hV;go_simp⟩) ?_
          refine takeC (i:=12) (v:=.pointer (some ⟨bb,off+j*4+1,none⟩)) rfl (by kernel_rfl) (by kernel_rfl) (by kernel_rfl) (by kernel_rfl) (by kernel_rfl) (fun _ _ _ h=>HP _ _ _ _ _ h) (Or.inl ⟨by kernel_rfl,fun V hV=>by obtain ⟨r0,r1,r2⟩:=hV;go_simp⟩) ?_;refine takeC (i:=13) (v:=.int .i64 x1) rfl (by kernel_rfl) (by kernel_rfl) (by kernel_rfl) (by kernel_rfl) (by kernel_rfl) (fun _ _ _ h=>HP _ _ _ _ _ h) (Or.inl ⟨by kernel_rfl,fun V hV=>by obtain ⟨r0,r1,r2⟩:=hV;go_simp⟩) ?_;refine takeC (i:=14) (v:=.slice (some ⟨g2,0,none⟩) V.length cv) rfl (by kernel_rfl) (by kernel_rfl) (by kernel_rfl) (by kernel_rfl) (by kernel_rfl) (fun _ _ _ h=>HP _ _ _ _ _ h) (Or.inl ⟨by kernel_rfl,fun V hV=>by obtain ⟨r0,r1,r2⟩:=hV;go_simp⟩) ?_
          refine takeC (i:=15) (v:=.int .i64 (m:Int)) rfl (by kernel_rfl) (by kernel_rfl) (by kernel_rfl) (by kernel_rfl) (by kernel_rfl) (fun _ _ _ h=>HP _ _ _ _ _ h) (Or.inl ⟨by kernel_rfl,fun V hV=>by obtain ⟨r0,r1,r2⟩:=hV;go_simp⟩) ?_;refine takeC (i:=16) (v:=.pointer (some ⟨g2,m,none⟩)) rfl (by kernel_rfl) (by kernel_rfl) (by kernel_rfl) (by kernel_rfl) (by kernel_rfl) (fun _ _ _ h=>HP _ _ _ _ _ h) (Or.inl ⟨by kernel_rfl,fun V hV=>by obtain ⟨r0,r1,r2⟩:=hV;go_simp⟩) ?_;refine takeC (i:=17) (v:=.int .i64 (a0:Int)) rfl (by kernel_rfl) (by kernel_rfl) (by kernel_rfl) (by kernel_rfl) (by kernel_rfl) (fun _ _ _ h=>HP _ _ _ _ _ h) (Or.inl ⟨by kernel_rfl,fun V hV=>by obtain ⟨r0,r1,r2⟩:=hV;go_simp⟩) ?_
          refine takeC (i:=18) (v:=.int .i64 (j:Int)) rfl (by kernel_rfl) (by kernel_rfl) (by kernel_rfl) (by kernel_rfl) (by kernel_rfl) (fun _ _ _ h=>HP _ _ _ _ _ h) (Or.inl ⟨by kernel_rfl,fun V hV=>by obtain ⟨r0,r1,r2⟩:=hV;go_simp⟩) ?_;refine takeC (i:=19) (v:=.agg #[.int .i64 2,.int .i64 t0,.int .i64 x1,.int .i64 (a0:Int),.int .i64 (j:Int)]) rfl (by kernel_rfl) (by kernel_rfl) (by kernel_rfl) (by kernel_rfl) (by kernel_rfl) (fun _ _ _ h=>HP _ _ _ _ _ h) (Or.inl ⟨by kernel_rfl,fun V hV=>by obtain ⟨r0,r1,r2⟩:=hV;go_simp⟩) ?_;refine consC (i:=20) (by kernel_rfl) (by kernel_rfl) ⟨n0,z0,z1⟩ rfl (fun K hK=>?_);go_wp2_with fail
          refine consC (i:=21) (by kernel_rfl) (by kernel_rfl) ⟨cell_al10 _ n0,cell_al10 _ z0,cell_al10 _ z1⟩ rfl (fun K hK=>?_);refine wpList_append_own_at _ rfl _ _ 25 rfl w1.heap.size 32 i0 (.agg #[.int .i64 0,.int .i64 0,.int .i64 0,.int .i64 0,.int .i64 0]) 5 40 Tryz.underlying25 hi hz0 hz1 hz2 rfl (by decide) u3 _ _ rfl (hrowe.alloc _) ⟨we.heap.size,0,none⟩ 1 1 [.int .i64 2,.int .i64 t0,.int .i64 x1,.int .i64 (a0:Int),.int .i64 (j:Int)] rfl rfl ?a1r ?a2r ?a3r ?a4r ?a5r ?_
          case a1r=>intro j u hj;match j,hj with
           | 0,hj=>simp at hj;subst hj;simp [Addr.add]
           | 1,hj=>simp at hj;subst hj;simp [Addr.add]
           | 2,hj=>simp at hj;subst hj;simp [Addr.add]
           | 3,hj=>simp at hj;subst hj;simp [Addr.add]
           | 4,hj=>simp at hj;subst hj;simp [Addr.add]
          case a2r=>intro u hu;simp at hu;rcases hu with rfl | rfl | rfl | rfl | rfl<;>rfl
          case a3r=>unfold maxLen;omega
          case a4r=>omega
          case a5r=>simp;omega
          intro r7 w7 hown7 hg7 _ hat7;have vrow7:=apart_kept (vrowe.alloc (.cells #[.int .i64 2,.int .i64 t0,.int .i64 x1,.int .i64 (a0:Int),.int .i64 (j:Int)] 32)) hg7 HAPb.out;have AP7:=Lib.hid (apart_new vrowe HAPb.out (show we.heap.size≤we.heap.size+1 by omega) (by simpa using hat7));have B7:Below w1.heap.size w1 w7:=(hbe.alloc hbe.size _).grown hg7 (by simp;omega) (fun j hj=>(hrowe.lt j hj).1);have g0:w7.cell? ⟨g2,m,none⟩=some (.int .i64 (a0:Int)):=by have e:=int_cell vrow7 rfl hm;rw [HA0.out] at e;exact e
          have g1:w7.cell? ⟨bb,off+a0*4+1,none⟩=some (.int .i64 t0):=by have e:=(HQ.out a0 p0 _ (bel_trans bk B7)).2.1;rw [HT0.out] at e;exact e
          have g3:w7.cell? ⟨bb,off+j*4+1,none⟩=some (.int .i64 x1):=by have e:=(HQ.out j hj1 _ (bel_trans bk B7)).2.1;rw [HX.out] at e;exact e
          go_wp2_with fail
          refine lastC (by kernel_rfl) (by kernel_rfl) ⟨g0,g1,g3⟩ (of_decide_eq_true (by kernel_rfl)) ?_;refine any_seqI [22] [_] _ _ _ rfl (by kernel_rfl) ?_;have hown7':w7.ownsRow w1.heap.size 32 5 r7 (c2+1) (recV edV (E1++rTo h key V j++[(2,t0,x1,(a0:Int),(j:Int))])):=by rw [recE_snoc];exact hown7
          clear hown7;have hown7:=hown7';clear hown7';go_wp2_with fail
          by_cases hl1:m+1 < V.length
          ·have jl:(m:Int)+1 < (V.length:Int):=by omega
           have p1:=HVL.out (m+1) (hl1);obtain ⟨a1,ha1⟩:∃ x,vAt V (m+1)=x:=⟨_,rfl⟩;have HA1:Hid (vAt V (m+1)=a1):=ha1;rw [ha1] at p1;clear ha1;obtain ⟨t1,ht1⟩:∃ x,(ev h a1).2.1=x:=⟨_,rfl⟩;have HT1:Hid ((ev h a1).2.1=t1):=ht1;have HX1:Hid (tx h (vAt V (m+1))=t1):=by show _=_;rw [HA1.out];exact ht1
           clear ht1;have ja1:(a1:Int) < (n:Int):=by have:=HN.out;omega
           have m1:w7.cell? ⟨g2,m+1,none⟩=some (.int .i64 (a1:Int)):=by have e:=int_cell vrow7 rfl (show m+1 < V.length by omega);rw [HA1.out] at e;exact e
           have k1:w7.cell? ⟨bb,off+a1*4+1,none⟩=some (.int .i64 t1):=by have e:=(HQ.out a1 p1 _ (bel_trans bk B7)).2.1;rw [HT1.out] at e;exact e
           by_cases tt:t1=x1
           ·have et:(t1 != x1)=false:=by rw [tt];simp
            have HRD:Hid (rdEdges h V j=[(2,t0,x1,(a0:Int),(j:Int))]++[]):=by show _=_;rw [HR1.out];unfold oEdge;rw [HX1.out,HTJ.out,if_neg (fun hh=>hh.2 tt)]
            clear tt HR1;have HFin:Hid (E1++rTo h key V (j+1)=(E1++rTo h key V j++[(2,t0,x1,(a0:Int),(j:Int))])):=by show _=_;rw [HE.out,HRD.out];simp [List.append_assoc]
            go_wp2_with fail
            go_quiet (fail)
            go_wp2_with fail
            refine ⟨⟨j+1,c2+1,by omega,by omega,by first | go_num | simp,by show _=_;rw [HFin.out,List.length_append,HL3.out];rfl,(by first | exact below_drewN B7 _ | exact below_drewN (below_drewN B7 _) _),by rw [HFin.out];exact hown7,vrow7,AP7⟩,by simp [RowKit.intOf];omega⟩
           ·have et:(t1 != x1)=true:=by rw [bne_iff_ne];exact tt
            have HRD:Hid (rdEdges h V j=[(2,t0,x1,(a0:Int),(j:Int))]++[(3,x1,t1,(j:Int),(a1:Int))]):=by show _=_;rw [HR1.out];unfold oEdge;rw [HX1.out,HTJ.out,if_pos ⟨hl1,tt⟩,HA1.out]
            clear tt HR1;have HFin:Hid (E1++rTo h key V (j+1)=(E1++rTo h key V j++[(2,t0,x1,(a0:Int),(j:Int))])++[(3,x1,t1,(j:Int),(a1:Int))]):=by show _=_;rw [HE.out,HRD.out];simp [List.append_assoc]
            go_wp2_with fail
            go_quiet (fail)
            go_wp2_with fail
            refine wp_region_any (by kernel_rfl) ?_;change wpAny _ _ _ _ _ _ _ (World.drew _);generalize hwd:World.drew _=wd;have hbd:Below w1.heap.size w1 wd:=by rw [← hwd];first | exact (below_drewN B7 _).drew | exact (below_drewN (below_drewN B7 _) _).drew
            have hrowd:wd.ownsRow w1.heap.size 32 5 r7 (c2+1) (recV edV ((E1++rTo h key V j++[(2,t0,x1,(a0:Int),(j:Int))]))):=by rw [← hwd];exact hown7
            have vrowd:wd.ownsRow wo.heap.size 3 1 (.slice (some ⟨g2,0,none⟩) V.length cv) V.length (recV intV (V.map Int.ofNat)):=by rw [← hwd];exact vrow7
            have n1:wd.cell? ⟨g2,m+1,none⟩=some (.int .i64 (a1:Int)):=by have e:=int_cell vrowd rfl (show m+1 < V.length by omega);rw [HA1.out] at e;exact e
            have z1:wd.cell? ⟨bb,off+a1*4+1,none⟩=some (.int .i64 t1):=by have e:=(HQ.out a1 p1 _ (bel_trans bk hbd)).2.1;rw [HT1.out] at e;exact e
            have z2:wd.cell? ⟨bb,off+j*4+1,none⟩=some (.int .i64 x1):=by have e:=(HQ.out j hj1 _ (bel_trans bk hbd)).2.1;rw [HX.out] at e;exact e
            clear hwd;have sd:=hbd.size;refine any_of_C (C:=fun V=>V.cell? ⟨g2,m+1,none⟩=some (.int .i64 (a1:Int))∧V.cell? ⟨bb,off+a1*4+1,none⟩=some (.int .i64 t1)∧V.cell? ⟨bb,off+j*4+1,none⟩=some (.int .i64 x1)) 24 _ _ _ _ ?_;refine takeC (i:=0) (v:=r7) rfl (by kernel_rfl) (by kernel_rfl) (by kernel_rfl) (by kernel_rfl) (by kernel_rfl) (fun _ _ _ h=>HP _ _ _ _ _ h) (Or.inl ⟨by kernel_rfl,fun V hV=>by obtain ⟨r0,r1,r2⟩:=hV;go_simp⟩) ?_;refine takeC (i:=1) (v:=.slice (some ⟨bb,off,none⟩) n cap) rfl (by kernel_rfl) (by kernel_rfl) (by kernel_rfl) (by kernel_rfl) (by kernel_rfl) (fun _ _ _ h=>HP _ _ _ _ _ h) (Or.inl ⟨by kernel_rfl,fun V hV=>by obtain ⟨r0,r1,r2⟩:=hV;go_simp⟩) ?_;refine takeC (i:=2) (v:=.int .i64 (j:Int)) rfl (by kernel_rfl) (by kernel_rfl) (by kernel_rfl) (by kernel_rfl) (by kernel_rfl) (fun _ _ _ h=>HP _ _ _ _ _ h) (Or.inl ⟨by kernel_rfl,fun V hV=>by obtain ⟨r0,r1,r2⟩:=hV;go_simp⟩) ?_
            refine takeC (i:=3) (v:=.pointer (some ⟨bb,off+j*4,none⟩)) rfl (by kernel_rfl) (by kernel_rfl) (by kernel_rfl) (by kernel_rfl) (by kernel_rfl) (fun _ _ _ h=>HP _ _ _ _ _ h) (Or.inl ⟨by kernel_rfl,fun V hV=>by obtain ⟨r0,r1,r2⟩:=hV;go_simp⟩) ?_;refine takeC (i:=4) (v:=.pointer (some ⟨bb,off+j*4+1,none⟩)) rfl (by kernel_rfl) (by kernel_rfl) (by kernel_rfl) (by kernel_rfl) (by kernel_rfl) (fun _ _ _ h=>HP _ _ _ _ _ h) (Or.inl ⟨by kernel_rfl,fun V hV=>by obtain ⟨r0,r1,r2⟩:=hV;go_simp⟩) ?_;refine takeC (i:=5) (v:=.int .i64 x1) rfl (by kernel_rfl) (by kernel_rfl) (by kernel_rfl) (by kernel_rfl) (by kernel_rfl) (fun _ _ _ h=>HP _ _ _ _ _ h) (Or.inl ⟨by kernel_rfl,fun V hV=>by obtain ⟨r0,r1,r2⟩:=hV;go_simp⟩) ?_
            refine takeC (i:=6) (v:=.slice (some ⟨bb,off,none⟩) n cap) rfl (by kernel_rfl) (by kernel_rfl) (by kernel_rfl) (by kernel_rfl) (by kernel_rfl) (fun _ _ _ h=>HP _ _ _ _ _ h) (Or.inl ⟨by kernel_rfl,fun V hV=>by obtain ⟨r0,r1,r2⟩:=hV;go_simp⟩) ?_;refine takeC (i:=7) (v:=.slice (some ⟨g2,0,none⟩) V.length cv) rfl (by kernel_rfl) (by kernel_rfl) (by kernel_rfl) (by kernel_rfl) (by kernel_rfl) (fun _ _ _ h=>HP _ _ _ _ _ h) (Or.inl ⟨by kernel_rfl,fun V hV=>by obtain ⟨r0,r1,r2⟩:=hV;go_simp⟩) ?_;refine takeC (i:=8) (v:=.int .i64 (m:Int)) rfl (by kernel_rfl) (by kernel_rfl) (by kernel_rfl) (by kernel_rfl) (by kernel_rfl) (fun _ _ _ h=>HP _ _ _ _ _ h) (Or.inl ⟨by kernel_rfl,fun V hV=>by obtain ⟨r0,r1,r2⟩:=hV;go_simp⟩) ?_
            refine takeC (i:=9) (v:=.int .i64 ((m:Int)+1)) rfl (by kernel_rfl) (by kernel_rfl) (by kernel_rfl) (by kernel_rfl) (by kernel_rfl) (fun _ _ _ h=>HP _ _ _ _ _ h) (Or.inl ⟨by kernel_rfl,fun V hV=>by obtain ⟨r0,r1,r2⟩:=hV;go_simp⟩) ?_;refine takeC (i:=10) (v:=.pointer (some ⟨g2,m+1,none⟩)) rfl (by kernel_rfl) (by kernel_rfl) (by kernel_rfl) (by kernel_rfl) (by kernel_rfl) (fun _ _ _ h=>HP _ _ _ _ _ h) (Or.inl ⟨by kernel_rfl,fun V hV=>by obtain ⟨r0,r1,r2⟩:=hV;go_simp⟩) ?_;refine takeC (i:=11) (v:=.int .i64 (a1:Int)) rfl (by kernel_rfl) (by kernel_rfl) (by kernel_rfl) (by kernel_rfl) (by kernel_rfl) (fun _ _ _ h=>HP _ _ _ _ _ h) (Or.inl ⟨by kernel_rfl,fun V hV=>by obtain ⟨r0,r1,r2⟩:=hV;go_simp⟩) ?_
            refine takeC (i:=12) (v:=.pointer (some ⟨bb,off+a1*4,none⟩)) rfl (by kernel_rfl) (by kernel_rfl) (by kernel_rfl) (by kernel_rfl) (by kernel_rfl) (fun _ _ _ h=>HP _ _ _ _ _ h) (Or.inl ⟨by kernel_rfl,fun V hV=>by obtain ⟨r0,r1,r2⟩:=hV;go_simp⟩) ?_;refine takeC (i:=13) (v:=.pointer (some ⟨bb,off+a1*4+1,none⟩)) rfl (by kernel_rfl) (by kernel_rfl) (by kernel_rfl) (by kernel_rfl) (by kernel_rfl) (fun _ _ _ h=>HP _ _ _ _ _ h) (Or.inl ⟨by kernel_rfl,fun V hV=>by obtain ⟨r0,r1,r2⟩:=hV;go_simp⟩) ?_;refine takeC (i:=14) (v:=.int .i64 t1) rfl (by kernel_rfl) (by kernel_rfl) (by kernel_rfl) (by kernel_rfl) (by kernel_rfl) (fun _ _ _ h=>HP _ _ _ _ _ h) (Or.inl ⟨by kernel_rfl,fun V hV=>by obtain ⟨r0,r1,r2⟩:=hV;go_simp⟩) ?_
            refine takeC (i:=15) (v:=.int .i64 (j:Int)) rfl (by kernel_rfl) (by kernel_rfl) (by kernel_rfl) (by kernel_rfl) (by kernel_rfl) (fun _ _ _ h=>HP _ _ _ _ _ h) (Or.inl ⟨by kernel_rfl,fun V hV=>by obtain ⟨r0,r1,r2⟩:=hV;go_simp⟩) ?_;refine takeC (i:=16) (v:=.slice (some ⟨g2,0,none⟩) V.length cv) rfl (by kernel_rfl) (by kernel_rfl) (by kernel_rfl) (by kernel_rfl) (by kernel_rfl) (fun _ _ _ h=>HP _ _ _ _ _ h) (Or.inl ⟨by kernel_rfl,fun V hV=>by obtain ⟨r0,r1,r2⟩:=hV;go_simp⟩) ?_;refine takeC (i:=17) (v:=.int .i64 (m:Int)) rfl (by kernel_rfl) (by kernel_rfl) (by kernel_rfl) (by kernel_rfl) (by kernel_rfl) (fun _ _ _ h=>HP _ _ _ _ _ h) (Or.inl ⟨by kernel_rfl,fun V hV=>by obtain ⟨r0,r1,r2⟩:=hV;go_simp⟩) ?_
            refine takeC (i:=18) (v:=.int .i64 ((m:Int)+1)) rfl (by kernel_rfl) (by kernel_rfl) (by kernel_rfl) (by kernel_rfl) (by kernel_rfl) (fun _ _ _ h=>HP _ _ _ _ _ h) (Or.inl ⟨by kernel_rfl,fun V hV=>by obtain ⟨r0,r1,r2⟩:=hV;go_simp⟩) ?_;refine takeC (i:=19) (v:=.pointer (some ⟨g2,m+1,none⟩)) rfl (by kernel_rfl) (by kernel_rfl) (by kernel_rfl) (by kernel_rfl) (by kernel_rfl) (fun _ _ _ h=>HP _ _ _ _ _ h) (Or.inl ⟨by kernel_rfl,fun V hV=>by obtain ⟨r0,r1,r2⟩:=hV;go_simp⟩) ?_;refine takeC (i:=20) (v:=.int .i64 (a1:Int)) rfl (by kernel_rfl) (by kernel_rfl) (by kernel_rfl) (by kernel_rfl) (by kernel_rfl) (fun _ _ _ h=>HP _ _ _ _ _ h) (Or.inl ⟨by kernel_rfl,fun V hV=>by obtain ⟨r0,r1,r2⟩:=hV;go_simp⟩) ?_
            refine takeC (i:=21) (v:=.agg #[.int .i64 3,.int .i64 x1,.int .i64 t1,.int .i64 (j:Int),.int .i64 (a1:Int)]) rfl (by kernel_rfl) (by kernel_rfl) (by kernel_rfl) (by kernel_rfl) (by kernel_rfl) (fun _ _ _ h=>HP _ _ _ _ _ h) (Or.inl ⟨by kernel_rfl,fun V hV=>by obtain ⟨r0,r1,r2⟩:=hV;go_simp⟩) ?_;refine consC (i:=22) (by kernel_rfl) (by kernel_rfl) ⟨n1,z1,z2⟩ rfl (fun K hK=>?_);go_wp2_with fail
            refine consC (i:=23) (by kernel_rfl) (by kernel_rfl) ⟨cell_al10 _ n1,cell_al10 _ z1,cell_al10 _ z2⟩ rfl (fun K hK=>?_);refine wpList_append_own_at _ rfl _ _ 25 rfl w1.heap.size 32 i0 (.agg #[.int .i64 0,.int .i64 0,.int .i64 0,.int .i64 0,.int .i64 0]) 5 40 Tryz.underlying25 hi hz0 hz1 hz2 rfl (by decide) r7 _ _ rfl (hrowd.alloc _) ⟨wd.heap.size,0,none⟩ 1 1 [.int .i64 3,.int .i64 x1,.int .i64 t1,.int .i64 (j:Int),.int .i64 (a1:Int)] rfl rfl ?a1oc ?a2oc ?a3oc ?a4oc ?a5oc ?_
            case a1oc=>intro j u hj;match j,hj with
             | 0,hj=>simp at hj;subst hj;simp [Addr.add]
             | 1,hj=>simp at hj;subst hj;simp [Addr.add]
             | 2,hj=>simp at hj;subst hj;simp [Addr.add]
             | 3,hj=>simp at hj;subst hj;simp [Addr.add]
             | 4,hj=>simp at hj;subst hj;simp [Addr.add]
            case a2oc=>intro u hu;simp at hu;rcases hu with rfl | rfl | rfl | rfl | rfl<;>rfl
            case a3oc=>unfold maxLen;omega
            case a4oc=>omega
            case a5oc=>simp;omega
            intro r8 w8 hown8 hg8 _ hat8;have vrow8:=apart_kept (vrowd.alloc (.cells #[.int .i64 3,.int .i64 x1,.int .i64 t1,.int .i64 (j:Int),.int .i64 (a1:Int)] 32)) hg8 AP7.out;have AP8:=Lib.hid (apart_new vrowd AP7.out (show wd.heap.size≤wd.heap.size+1 by omega) (by simpa using hat8));have B8:Below w1.heap.size w1 w8:=(hbd.alloc hbd.size _).grown hg8 (by simp;omega) (fun j hj=>(hrowd.lt j hj).1);have f1:w8.cell? ⟨g2,m+1,none⟩=some (.int .i64 (a1:Int)):=by have e:=int_cell vrow8 rfl (show m+1 < V.length by omega);rw [HA1.out] at e;exact e
            have f2:w8.cell? ⟨bb,off+a1*4+1,none⟩=some (.int .i64 t1):=by have e:=(HQ.out a1 p1 _ (bel_trans bk B8)).2.1;rw [HT1.out] at e;exact e
            have f3:w8.cell? ⟨bb,off+j*4+1,none⟩=some (.int .i64 x1):=by have e:=(HQ.out j hj1 _ (bel_trans bk B8)).2.1;rw [HX.out] at e;exact e
            go_wp2_with fail
            refine lastC (by kernel_rfl) (by kernel_rfl) ⟨f1,f2,f3⟩ (of_decide_eq_true (by kernel_rfl)) ?_;refine any_seqI [24] [_] _ _ _ rfl (by kernel_rfl) ?_;go_wp2_with fail
            refine ⟨⟨j+1,c2+1+1,by omega,by omega,by first | go_num | simp,by show _=_;rw [HFin.out,List.length_append,List.length_append,HL3.out];rfl,B8,by rw [HFin.out,recE_snoc];exact hown8,vrow8,AP8⟩,by simp [RowKit.intOf];omega⟩
          ·have jl:¬ (m:Int)+1 < (V.length:Int):=by omega
           have jd:decide ((m:Int)+1 < (V.length:Int))=false:=decide_eq_false jl;have HRD:Hid (rdEdges h V j=[(2,t0,x1,(a0:Int),(j:Int))]++[]):=by show _=_;rw [HR1.out];unfold oEdge;rw [if_neg (fun hh=>hl1 hh.1)]
           clear HR1;have HFin:Hid (E1++rTo h key V (j+1)=(E1++rTo h key V j++[(2,t0,x1,(a0:Int),(j:Int))])):=by show _=_;rw [HE.out,HRD.out];simp [List.append_assoc]
           go_wp2_with fail
           go_quiet (fail)
           go_wp2_with fail
           refine ⟨⟨j+1,c2+1,by omega,by omega,by first | go_num | simp,by show _=_;rw [HFin.out,List.length_append,HL3.out];rfl,(by first | exact below_drewN B7 _ | exact below_drewN (below_drewN B7 _) _),by rw [HFin.out];exact hown7,vrow7,AP7⟩,by simp [RowKit.intOf];omega⟩
   ·have HE:Hid (rTo h key V (j+1)=rTo h key V j):=by show _=_;rw [HRN.out,HRO.out,decide_eq_false dk,Bool.false_and,if_neg (by simp),List.append_nil]
    have e1:(x2 != key)=true:=by rw [bne_iff_ne];exact dk
    have e2:(x2==key)=false:=beq_eq_false_iff_ne.2 dk;clear HRN HRO;go_wp2_with fail
    go_quiet (fail)
    go_wp2_with fail
    refine ⟨⟨j+1,c2,by omega,by omega,by first | go_num | simp,by rw [HE.out];exact HL3.out,below_drewN B4 _,by rw [HE.out];exact hrow4,vrow4,HAPb⟩,by simp [RowKit.intOf];omega⟩
  ·obtain rfl:j=n:=by omega
   go_wp2_with fail
   refine hexit.out _ c2 _ _ _ _ _ _ _ _ _ _ _ _ _ _ _ _ _ _ _ _ _ _ _ _ _ _ _ _ _ _ _ _ _ _ _ _ _ _ _ _ _ _ _ _ _ _ _ _ _ _ _ _ _ _ _ _ _ _ _ _ _ _ _ _ _ _ _ _ _ _ _ _ _ _ _ _ _ _ _ _ _ _ _ _ _ _ _ _ _ _ _ _ _ _ _ _ _ _ _ _ _ _ _ _ _ _ _ _ _ _ _ _ _ _ _ _ _ _ _ _ _ _ _ _ _ _ _ _ _ _ _ _ _ _ _ _ _ _ _ _ _ _ _ _ _ ?_ HL3 hbb hrowb;omega
end Go.Proofs.YthamoeekiglphaaGreatDoor
