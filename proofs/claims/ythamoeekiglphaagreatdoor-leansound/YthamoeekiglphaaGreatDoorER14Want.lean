/-
  What cartoucheref14.wanted answers.
-/
import Derived.Test.YthamoeekiglphaaGreatDoorEL0e
namespace Go.Proofs.YthamoeekiglphaaGreatDoor
set_option maxRecDepth 100000
open Go.RowKit
set_option linter.unusedVariables false
attribute [local go_sem] ba_size farW_cell
theorem plE_len (h:List Ev) (e:Ed):(plE h e).length≤3∧(enE h e).length≤3:=by
 unfold plE enE
 constructor
 ·split
  ·split<;>simp
  ·simp
 ·split
  ·split<;>simp
  ·simp
theorem edge_no (h:List Ev) (e:Ed) (ht:(decide (e.1=3)&&wrT h e.2.2.2.1)=false):plE h e=[e.2.2.2.1,e.2.2.2.2]∧enE h e=[e.2.1,e.2.2.1]:=by
 unfold plE enE
 by_cases h3:e.1=3
 ·rw [decide_eq_true h3,Bool.true_and] at ht
  have:wrI h e.2.2.2.1=none:=by unfold wrI;rw [if_neg (of_decide_eq_false ht)]
  rw [if_pos h3,if_pos h3,this];simp
 ·rw [if_neg h3,if_neg h3]
  simp
def wL:Option Nat→List Int
 | some v=>[(v:Int)]
 | none=>[]
def wT (h:List Ev):Option Nat→List Int
 | some v=>[tx h v]
 | none=>[]
theorem edge_yes (h:List Ev) (e:Ed) (i:Nat) (hi:e.2.2.2.1=(i:Int)) (ht:(decide (e.1=3)&&wrT h e.2.2.2.1)=true) (r:Option Nat) (hr:writerL h (ev h i).2.2.1 (ev h i).2.2.2=r) :
 plE h e=[e.2.2.2.1,e.2.2.2.2]++wL r∧enE h e=[e.2.1,e.2.2.1]++wT h r:=by
 rw [Bool.and_eq_true,decide_eq_true_eq] at ht;have:wrI h e.2.2.2.1=r:=by unfold wrI;rw [if_pos (of_decide_eq_true ht.2),hi,Int.toNat_natCast,hr]
 unfold plE enE;rw [if_pos ht.1,if_pos ht.1,this];cases r<;>exact ⟨rfl,rfl⟩
theorem writer_lt (h:List Ev) (key val:List UInt8) (v:Nat) (hv:writerL h key val=some v):v < h.length:=((fi_some _ _ _).1 hv).1
theorem sum3 {α:Type} (f:Ed→List α) (l:List Ed) (h:∀ e∈l,(f e).length≤3):(l.flatMap f).length≤l.length*3:=by
 induction l with
 | nil=>simp
 | cons x t ih =>
   rw [List.flatMap_cons,List.length_append,List.length_cons];have:=h x (List.mem_cons_self ..);have:=ih (fun y hy=>h y (List.mem_cons_of_mem _ hy));omega
theorem want_len (h:List Ev) (v:Vd) (hg:v.2.2.2.2.length≤100000):(plW h v).length≤1000000∧(enW h v).length≤1000000:=by
 have h1:∀ b,(plB h b).length≤3:=fun b=>by unfold plB;split<;>simp
 unfold plW enW
 split
 ·refine ⟨by have:=h1 v.2.2.2.1;omega,?_⟩
  unfold enB;have:=List.length_filterMap_le (inT h) (plB h v.2.2.2.1);have:=h1 v.2.2.2.1;omega
 ·have a:=sum3 (plE h) v.2.2.2.2 (fun e _=>(plE_len h e).1)
  have b:=sum3 (enE h) v.2.2.2.2 (fun e _=>(plE_len h e).2);omega
set_option maxHeartbeats 16000000 in
theorem rwant_bad (h:List Ev) (lv0 k0 k1 k2 n:Int) (o:List Int) (g:List Ed) (vh vo vr:Value) (w:World) (hT:IsEvs w vh h) (hO:IsInts w vo o) (hR:IsEds w vr g) (hl:h.length≤100000) (hg:g.length≤100000) :
 Calls Tryz.prog 101 #[vh,.agg (vdC (lv0,false,o,(k0,k1,k2),g) vo vr),.int .i64 n] w fun e w'=>e=.returned (.bool (wantB h (lv0,false,o,(k0,k1,k2),g) n))∧Below w.heap.size w w':=by
 have CW:Hid (∀ key val W,Below w.heap.size w W→Calls Tryz.prog 52 #[vh,.string ⟨key.toArray⟩,.string ⟨val.toArray⟩] W fun e w'=>e=.returned (.int .i64 (oI (writerL h key val)))∧Below W.heap.size W w'):=fun key val W hW=>rwriter_any h vh W (hT.below hW) key val
 have CF:Hid (∀ t W,Below w.heap.size w W→Calls Tryz.prog 127 #[vh,.int .i64 t] W fun e w'=>e=.returned (.tuple #[lifA (findP h t).1,.bool (findP h t).2])∧Below W.heap.size W w'):=fun t W hW=>rfind_any h vh W (hT.below hW) t
 obtain ⟨ha,hc,rfl,h1,h2,h3,HH⟩:=hT.reads;obtain ⟨oa,oc,rfl,o1,o2,o3,_⟩:=IsInts.reads hO;obtain ⟨ra,rc,rfl,r1,r2,r3,HR⟩:=IsEds.reads hR;obtain ⟨nh,hnh⟩:∃ x,h.length=x:=⟨_,rfl⟩;obtain ⟨no,hno⟩:∃ x,o.length=x:=⟨_,rfl⟩;obtain ⟨ng,hng⟩:∃ x,g.length=x:=⟨_,rfl⟩;obtain ⟨PL,hPL⟩:∃ x,plW h (lv0,false,o,(k0,k1,k2),g)=x:=⟨_,rfl⟩;obtain ⟨EL,hEL⟩:∃ x,enW h (lv0,false,o,(k0,k1,k2),g)=x:=⟨_,rfl⟩;obtain ⟨rr,hrr⟩:∃ x,wantB h (lv0,false,o,(k0,k1,k2),g) n=x:=⟨_,rfl⟩
 have HRR:Hid (rr=(decide (n∈PL) || EL.any fun t=>endsAt h t n)):=by
  show _=_;rw [← hrr,← hPL,← hEL];unfold wantB;simp
 have HLn:Hid (PL.length≤1000000∧EL.length≤1000000):=by
  show _∧_;rw [← hPL,← hEL];exact want_len h _ hg
 rw [hrr];have HPL:=Lib.hid hPL;have HEL:=Lib.hid hEL;have HNh:=Lib.hid hnh;have HNg:=Lib.hid hng;rw [hnh] at h1 h3 hl CW CF ⊢;rw [hno];rw [hng] at r1 r3 hg ⊢;clear hT hO hR hnh hno hng hPL hEL hrr o1 o3;have S0:=WS.new w #[.int .i64 lv0,.bool false,.slice oa no oc,.int .i64 k0,.int .i64 k1,.int .i64 k2,.slice ra ng rc];have f0:=S0.x.cell 0 _ rfl;have f1:=S0.x.cell 1 _ rfl;have f2:=S0.x.cell 2 _ rfl;have f3:=S0.x.cell 3 _ rfl;have f4:=S0.x.cell 4 _ rfl;have f5:=S0.x.cell 5 _ rfl;have f6:=S0.x.cell 6 _ rfl;obtain ⟨kb,hkb⟩:∃ kb,(k0 != 0)=kb:=⟨_,rfl⟩;go_enter Tryz.func101,Tryz.ntmps101
 go_upto_if 22 with fail
 go_cut [7,8,9,10,11,12] from 22 to 181 (fun l e _ _ _ _ W=>WS w W #[.int .i64 lv0,.bool false,.slice oa no oc,.int .i64 k0,.int .i64 k1,.int .i64 k2,.slice ra ng rc] l e PL EL)
 case first =>
  cases kb with
  | false =>
    have hk:k0=0:=by simpa using hkb
    have e22:=hkb
    have HPB:Hid (PL=g.flatMap (plE h)∧EL=g.flatMap (enE h)):=by
     show _∧_;rw [← HPL.out,← HEL.out];unfold plW enW;rw [if_neg (fun hh=>hh hk),if_neg (fun hh=>hh hk)];exact ⟨rfl,rfl⟩
    clear hk;generalize w.alloc (.cells #[.int .i64 lv0,.bool false,.slice oa no oc,.int .i64 k0,.int .i64 k1,.int .i64 k2,.slice ra ng rc] 27)=w0 at S0 f0 f1 f2 f3 f4 f5 f6 ⊢;go_wp2_with fail
    clear f0 f1 f2 f3 f4 f5 f6 e22 hkb;go_loopw [7,8,10] (fun l e iv wr=>∃ k:Nat,k≤ng∧iv=.int .i64 k∧WS w wr #[.int .i64 lv0,.bool false,.slice oa no oc,.int .i64 k0,.int .i64 k1,.int .i64 k2,.slice ra ng rc] l e ((g.take k).flatMap (plE h)) ((g.take k).flatMap (enE h))) (fun _ _ iv _=>ng - (RowKit.intOf iv).toNat)
    case atStart=>exact ⟨0,Nat.zero_le _,rfl,by simpa using S0⟩
    case round =>
     clear S0;obtain ⟨y,hy,rfl,S1⟩:=hrel;have hL:=sum3 (plE h) (g.take y) (fun e _=>(plE_len h e).1);have hE:=sum3 (enE h) (g.take y) (fun e _=>(plE_len h e).2);rw [List.length_take] at hL hE;have f6:=S1.x.cell 6 _ rfl
     by_cases hlt:y < ng
     ·have j1:(y:Int) < (ng:Int):=by omega
      have hk1:y < g.length:=by have:=HNg.out;omega
      obtain ⟨rb,ro,rfl,HR2⟩:=HR.out (by omega);obtain ⟨c0,c1,c2,c3,c4⟩:=HR2.out y hk1 _ S1.b;have HPl:Hid ((g.take (y+1)).flatMap (plE h)=(g.take y).flatMap (plE h)++plE h g[y]):=by show _=_;rw [List.take_succ_eq_append_getElem hk1,List.flatMap_append];simp
      have HEn:Hid ((g.take (y+1)).flatMap (enE h)=(g.take y).flatMap (enE h)++enE h g[y]):=by show _=_;rw [List.take_succ_eq_append_getElem hk1,List.flatMap_append];simp
      obtain ⟨⟨e0,e1,e2,e3,e4⟩,hx⟩:∃ x,g[y]=x:=⟨_,rfl⟩;rw [hx] at c0 c1 c2 c3 c4 HPl HEn;simp only at c0 c1 c2 c3 c4;clear hx;generalize (g.take y).flatMap (plE h)=L at S1 hL HPl;generalize (g.take y).flatMap (enE h)=E at S1 hE HEn;go_upto_region 18 with fail
      have XE:=SBox.new wr 32 #[.int .i64 e0,.int .i64 e1,.int .i64 e2,.int .i64 e3,.int .i64 e4];have S2:=S1.below ((Below.refl wr.heap.size wr).alloc (Nat.le_refl _) (.cells #[.int .i64 e0,.int .i64 e1,.int .i64 e2,.int .i64 e3,.int .i64 e4] 32));generalize wr.alloc (.cells #[.int .i64 e0,.int .i64 e1,.int .i64 e2,.int .i64 e3,.int .i64 e4] 32)=wE at XE S2 ⊢;clear c0 c1 c2 c3 c4 S1 f6;have h3':=XE.cell 3 _ rfl;have h4':=XE.cell 4 _ rfl;go_wp2_with (at_builtin;refine wp_push14 rfl _ _ rfl S2 rfl [e3,e4] 2 2 rfl rfl (by omega) ?_)
      intro l3 W3 S3 K3;have XE3:=K3 _ _ _ XE (by decide);clear h3' h4' XE K3 S2;have h1':=XE3.cell 1 _ rfl;have h2':=XE3.cell 2 _ rfl;go_wp2_with (at_builtin;refine wp_push14 rfl _ _ rfl S3.swap rfl [e1,e2] 2 2 rfl rfl (by omega) ?_)
      intro l4 W4 S4 K4;have XE4:=K4 _ _ _ XE3 (by decide);replace S4:=S4.swap;clear h1' h2' XE3 K4 S3;have h0':=XE4.cell 0 _ rfl;have h3':=XE4.cell 3 _ rfl;obtain ⟨tb,htb⟩:∃ tb,(decide (e0=3)&&wrT h e3)=tb:=⟨_,rfl⟩;have HTB:=Lib.hid htb;clear htb;go_upto_region 20 with fail
      go_cut [153] from 130 to 153 (fun s W=>s=.bool tb∧W=W4)
      case first =>
       by_cases x0:e0=3
       ·have q0:(e0==3)=true:=beq_iff_eq.2 x0
        by_cases x1:0≤e3
        ·by_cases x2:e3 < (nh:Int)
         ·obtain ⟨i,rfl⟩:∃ i:Nat,e3=i:=⟨e3.toNat,by omega⟩
          have hi:i < h.length:=by have:=HNh.out;omega
          obtain ⟨hb,ho,rfl,HH2⟩:=HH.out (by omega);obtain ⟨_,_,_,c3⟩:=HH2.out i hi _ S4.b;generalize hy3:(ev h i).2.2.2=y3 at c3;have j0:(i:Int) < (nh:Int):=by omega
          by_cases x3:y3=[]
          ·have HF:Hid (tb=false):=by show _=_;rw [← HTB.out,decide_eq_true x0,Bool.true_and];exact decide_eq_false (fun hh=>hh.2.2 (by rw [Int.toNat_natCast,hy3];exact x3))
           have q3:(y3==([]:List UInt8))=true:=beq_iff_eq.2 x3;clear hy3 x3 x0;go_wp2_with fail
           go_meet
           exact ⟨by rw [HF.out],rfl⟩
          ·have HF:Hid (tb=true):=by show _=_;rw [← HTB.out,decide_eq_true x0,Bool.true_and];exact decide_eq_true ⟨by omega,by rw [HNh.out];omega,by rw [Int.toNat_natCast,hy3];exact x3⟩
           have q3:(y3==([]:List UInt8))=false:=beq_eq_false_iff_ne.2 x3;clear hy3 x3 x0;go_wp2_with fail
           go_meet
           exact ⟨by rw [HF.out],rfl⟩
         ·have HF:Hid (tb=false):=by show _=_;rw [← HTB.out,decide_eq_true x0,Bool.true_and];exact decide_eq_false (fun hh=>x2 (by rw [← HNh.out];exact hh.2.1))
          clear x0;go_wp2_with fail
          go_meet
          exact ⟨by rw [HF.out],rfl⟩
        ·have HF:Hid (tb=false):=by show _=_;rw [← HTB.out,decide_eq_true x0,Bool.true_and];exact decide_eq_false (fun hh=>x1 hh.1)
         clear x0;go_wp2_with fail
         go_meet
         exact ⟨by rw [HF.out],rfl⟩
       ·have q0:(e0==3)=false:=beq_eq_false_iff_ne.2 x0
        have HF:Hid (tb=false):=by show _=_;rw [← HTB.out,decide_eq_false x0,Bool.false_and]
        clear x0;go_wp2_with fail
        go_meet
        exact ⟨by rw [HF.out],rfl⟩
      case rest =>
      obtain ⟨rfl,hwc⟩:=hcut;obtain rfl:W4=wc:=hwc.symm;cases tb with
      | false =>
        have HQ:Hid (plE h (e0,e1,e2,e3,e4)=[e3,e4]∧enE h (e0,e1,e2,e3,e4)=[e1,e2]):=edge_no h _ HTB.out;go_wp2_with fail
        refine ⟨⟨y+1,by omega,by first | go_num | simp,?_⟩,by simp [RowKit.intOf];omega⟩;rw [HPl.out,HEn.out,HQ.out.1,HQ.out.2];exact S4
      | true =>
        have hB:=HTB.out;rw [Bool.and_eq_true,decide_eq_true_eq] at hB;obtain ⟨x0,hw⟩:=hB;obtain ⟨x1,x2,x3⟩:=of_decide_eq_true hw;obtain ⟨i,rfl⟩:∃ i:Nat,e3=i:=⟨e3.toNat,by omega⟩;have hi:i < h.length:=by omega
        rw [HNh.out] at x2;obtain ⟨hb,ho,rfl,HH2⟩:=HH.out (by omega);obtain ⟨_,_,c2,c3⟩:=HH2.out i hi _ S4.b;have HQ:Hid (∀ r,writerL h (ev h i).2.2.1 (ev h i).2.2.2=r→plE h (e0,e1,e2,(i:Int),e4)=[(i:Int),e4]++wL r∧enE h (e0,e1,e2,(i:Int),e4)=[e1,e2]++wT h r):=fun r hr=>edge_yes h (e0,e1,e2,(i:Int),e4) i rfl HTB.out r hr
        generalize (ev h i).2.2.1=y2 at c2 HQ;generalize (ev h i).2.2.2=y3 at c3 HQ;have CW2:=fun W hW=>CW.out y2 y3 W hW
        have HWl:Hid (∀ v,writerL h y2 y3=some v→v < h.length):=fun v hv=>writer_lt h y2 y3 v hv
        obtain ⟨wv,hwv⟩:∃ wv,writerL h y2 y3=wv:=⟨_,rfl⟩;have hq:=HQ.out wv hwv;have hwl:=HWl.out;rw [hwv] at CW2 hwl;have HQ2:=Lib.hid hq;have HW2:=Lib.hid hwl;clear hq hwl HQ HWl hwv x0 hw x3 h0';go_wp2_with fail
        refine region_far (by kernel_rfl) (by kernel_rfl) ?_
        repeat (first | go_big_quiet_skip | (go_big_quiet_want;go_big_quiet_op;first | go_big_quiet_on | go_big_quiet_call (first | (go_at_call 52;exact calls_far (CW2 _ (bel_trans S4.b (farW_bel _ _)))))))
        refine wpQuiet_nil ?_;rintro w' ⟨U,rfl⟩;have S5:=S4.below (farW_bel W4 U);generalize farW W4 U=W5 at S5 ⊢;clear c2 c3 h3' XE4 S4 CW2;cases wv with
        | none =>
          have jn:¬ (0:Int)≤oI none:=by decide
          go_wp2_with fail
          refine ⟨⟨y+1,by omega,by first | go_num | simp,?_⟩,by simp [RowKit.intOf];omega⟩;rw [HPl.out,HEn.out,HQ2.out.1,HQ2.out.2,wL,wT,List.append_nil,List.append_nil];exact S5
        | some v =>
          have hv:=HW2.out v rfl;obtain ⟨_,d1,_,_⟩:=HH2.out v hv _ S5.b;have HD:Hid (tx h v=(ev h v).2.1):=rfl;have HD2:Hid (tx h v=(ev h v).2.1):=rfl;have jn:(0:Int)≤(v:Int):=by omega
          have jv:(v:Int) < (nh:Int):=by have:=HNh.out;omega
          generalize (ev h v).2.1=yv at d1 HD;have hov:oI (some v)=(v:Int):=rfl;have hLL:(L++[(i:Int),e4]).length+1≤1000000:=by simp only [List.length_append,List.length_cons,List.length_nil];omega
          have hEE:(E++[e1,e2]).length+1≤1000000:=by simp only [List.length_append,List.length_cons,List.length_nil];omega
          go_wp2_with (at_builtin;refine wp_push14 rfl _ _ rfl S5 rfl [(v:Int)] 1 1 rfl rfl hLL ?_)
          intro l6 W6 S6 _;clear d1;obtain ⟨_,d1,_,_⟩:=HH2.out v hv _ S6.b;rw [← HD2.out,HD.out] at d1;go_wp2_with (at_builtin;refine wp_push14 rfl _ _ rfl S6.swap rfl [yv] 1 1 rfl rfl hEE ?_)
          intro l7 W7 S7 _;go_wp2_with fail
          refine ⟨⟨y+1,by omega,by first | go_num | simp,?_⟩,by simp [RowKit.intOf];omega⟩;rw [HPl.out,HEn.out,HQ2.out.1,HQ2.out.2,wL,wT,HD.out];exact S7.swap
     ·obtain rfl:y=ng:=by omega
      have j1:¬ (y:Int) < (y:Int):=by omega
      have HE:Hid (g.take y=g):=by show _=_;rw [← HNg.out,List.take_length]
      rw [HE.out] at S1;go_wp2_with fail
      go_meet
      rw [HPB.out.1,HPB.out.2];exact S1
  | true =>
    have hk:¬ k0=0:=by simpa using hkb
    have e22:=hkb;generalize w.alloc (.cells #[.int .i64 lv0,.bool false,.slice oa no oc,.int .i64 k0,.int .i64 k1,.int .i64 k2,.slice ra ng rc] 27)=w0 at S0 f0 f1 f2 f3 f4 f5 f6 ⊢;go_wp2_with (at_builtin;refine wp_push14 rfl _ _ rfl S0 rfl [k1,k2] 2 2 rfl rfl (by simp) ?_)
    intro lv1 W1 S1 _;clear S0 f0 f1 f2 f3 f4 f5 f6;have f3:=S1.x.cell 3 _ rfl;have f4:=S1.x.cell 4 _ rfl;go_upto_region 7 with fail
    go_cut [53] from 32 to 53 (fun s W=>s=.bool (wrT h k1)∧W=W1)
    case first =>
     by_cases x1:0≤k1
     ·by_cases x2:k1 < (nh:Int)
      ·obtain ⟨i,rfl⟩:∃ i:Nat,k1=i:=⟨k1.toNat,by omega⟩
       have hi:i < h.length:=by have:=HNh.out;omega
       obtain ⟨hb,ho,rfl,HH2⟩:=HH.out (by omega);obtain ⟨c0,c1,c2,c3⟩:=HH2.out i hi _ S1.b;generalize (ev h i).1=y0 at c0;generalize hy1:(ev h i).2.1=y1 at c1;generalize hy2:(ev h i).2.2.1=y2 at c2;generalize hy3:(ev h i).2.2.2=y3 at c3;have j0:(i:Int) < (nh:Int):=by omega
       by_cases x3:y3=[]
       ·have HF:Hid (wrT h (i:Int)=false):=decide_eq_false (fun hh=>hh.2.2 (by rw [Int.toNat_natCast,hy3];exact x3))
        have e3:(y3==([]:List UInt8))=true:=beq_iff_eq.2 x3;clear hy1 hy2 hy3 x3;go_wp2_with fail
        go_meet
        exact ⟨by rw [HF.out],rfl⟩
       ·have HF:Hid (wrT h (i:Int)=true):=decide_eq_true ⟨by omega,by rw [HNh.out];omega,by rw [Int.toNat_natCast,hy3];exact x3⟩
        have e3:(y3==([]:List UInt8))=false:=beq_eq_false_iff_ne.2 x3;clear hy1 hy2 hy3 x3;go_wp2_with fail
        go_meet
        exact ⟨by rw [HF.out],rfl⟩
      ·have HF:Hid (wrT h k1=false):=decide_eq_false (fun hh=>x2 (by rw [← HNh.out];exact hh.2.1))
       go_wp2_with fail
       go_meet
       exact ⟨by rw [HF.out],rfl⟩
     ·have HF:Hid (wrT h k1=false):=decide_eq_false (fun hh=>x1 hh.1)
      go_wp2_with fail
      go_meet
      exact ⟨by rw [HF.out],rfl⟩
    case rest =>
    obtain ⟨rfl,hwc⟩:=hcut;obtain rfl:W1=wc:=hwc.symm;go_upto_if 53 with fail
    go_cut [7] from 53 to 72 (fun l W=>WS w W #[.int .i64 lv0,.bool false,.slice oa no oc,.int .i64 k0,.int .i64 k1,.int .i64 k2,.slice ra ng rc] l (.slice none 0 0) (plB h (k0,k1,k2)) [])
    case first =>
     cases hw:wrT h k1 with
     | false =>
       have HF:Hid (plB h (k0,k1,k2)=[k1,k2]):=by show _=_;unfold plB;rw [hw];rfl
       clear hw;go_wp2_with fail
       go_meet
       rw [HF.out];exact S1
     | true =>
       obtain ⟨x1,x2,x3⟩:=of_decide_eq_true hw;have HF:Hid (plB h (k0,k1,k2)=[k1,k2]++[oI (writerL h (ev h k1.toNat).2.2.1 (ev h k1.toNat).2.2.2)]):=by show _=_;unfold plB;rw [hw];rfl
       obtain ⟨i,rfl⟩:∃ i:Nat,k1=i:=⟨k1.toNat,by omega⟩;have hi:i < h.length:=by omega
       rw [HNh.out] at x2;rw [Int.toNat_natCast] at HF;obtain ⟨hb,ho,rfl,HH2⟩:=HH.out (by omega);obtain ⟨c0,c1,c2,c3⟩:=HH2.out i hi _ S1.b;generalize (ev h i).1=y0 at c0;generalize hy1:(ev h i).2.1=y1 at c1;generalize hy2:(ev h i).2.2.1=y2 at c2;generalize hy3:(ev h i).2.2.2=y3 at c3;have j0:(i:Int) < (nh:Int):=by omega
       rw [hy2,hy3] at HF;have CW2:=fun W hW=>CW.out y2 y3 W hW
       generalize oI (writerL h y2 y3)=wi at HF CW2;have HY2:=Lib.hid hy2;have HY3:=Lib.hid hy3;clear hy1 hy2 hy3 hw x3;go_wp2_with fail
       refine wp_region_any (by kernel_rfl) ?_;change wpAny _ _ _ _ _ _ _ (World.drew _);have S2:=S1.below (Below.refl W1.heap.size W1).drew
       have HC2:Hid (∀ V,Below w.heap.size w V→SBox V w.heap.size 27 #[.int .i64 lv0,.bool false,.slice oa no oc,.int .i64 k0,.int .i64 (i:Int),.int .i64 k2,.slice ra ng rc]→V.cell? ⟨w.heap.size,4,none⟩=some (.int .i64 (i:Int))∧V.cell? ⟨hb,ho+i*4+2,none⟩=some (.string ⟨y2.toArray⟩)∧V.cell? ⟨hb,ho+i*4+3,none⟩=some (.string ⟨y3.toArray⟩)):=fun V hV hX=>by
        obtain ⟨_,_,e2,e3⟩:=HH2.out i hi V hV;rw [HY2.out] at e2;rw [HY3.out] at e3;exact ⟨hX.cell 4 _ rfl,e2,e3⟩
       refine any_of_C (C:=fun V=>V.cell? ⟨w.heap.size,4,none⟩=some (.int .i64 (i:Int))∧V.cell? ⟨hb,ho+i*4+2,none⟩=some (.string ⟨y2.toArray⟩)∧V.cell? ⟨hb,ho+i*4+3,none⟩=some (.string ⟨y3.toArray⟩)) 19 _ _ _ _ ?_;generalize World.drew _=W2 at S2 ⊢;refine takeD 0 (lv1) rfl (by kernel_rfl) (fun _ _ _ h=>h) (fun V hV=>by obtain ⟨r0,r1,r2⟩:=hV;go_simp) ?_;refine takeD 1 (.slice (some ⟨hb,ho,none⟩) nh hc) rfl (by kernel_rfl) (fun _ _ _ h=>h) (fun V hV=>by obtain ⟨r0,r1,r2⟩:=hV;go_simp) ?_;refine takeD 2 (.slice (some ⟨hb,ho,none⟩) nh hc) rfl (by kernel_rfl) (fun _ _ _ h=>h) (fun V hV=>by obtain ⟨r0,r1,r2⟩:=hV;go_simp) ?_;refine takeD 3 (.pointer (some ⟨w.heap.size,3,none⟩)) rfl (by kernel_rfl) (fun _ _ _ h=>h) (fun V hV=>by obtain ⟨r0,r1,r2⟩:=hV;go_simp) ?_
       refine takeD 4 (.pointer (some ⟨w.heap.size,4,none⟩)) rfl (by kernel_rfl) (fun _ _ _ h=>h) (fun V hV=>by obtain ⟨r0,r1,r2⟩:=hV;go_simp) ?_;refine takeD 5 (.int .i64 (i:Int)) rfl (by kernel_rfl) (fun _ _ _ h=>h) (fun V hV=>by obtain ⟨r0,r1,r2⟩:=hV;go_simp) ?_;refine takeD 6 (.pointer (some ⟨hb,ho+i*4,none⟩)) rfl (by kernel_rfl) (fun _ _ _ h=>h) (fun V hV=>by obtain ⟨r0,r1,r2⟩:=hV;go_simp) ?_;refine takeD 7 (.pointer (some ⟨hb,ho+i*4+2,none⟩)) rfl (by kernel_rfl) (fun _ _ _ h=>h) (fun V hV=>by obtain ⟨r0,r1,r2⟩:=hV;go_simp) ?_;refine takeD 8 (.string ⟨y2.toArray⟩) rfl (by kernel_rfl) (fun _ _ _ h=>h) (fun V hV=>by obtain ⟨r0,r1,r2⟩:=hV;go_simp) ?_;refine takeD 9 (.slice (some ⟨hb,ho,none⟩) nh hc) rfl (by kernel_rfl) (fun _ _ _ h=>h) (fun V hV=>by obtain ⟨r0,r1,r2⟩:=hV;go_simp) ?_
       refine takeD 10 (.pointer (some ⟨w.heap.size,3,none⟩)) rfl (by kernel_rfl) (fun _ _ _ h=>h) (fun V hV=>by obtain ⟨r0,r1,r2⟩:=hV;go_simp) ?_;refine takeD 11 (.pointer (some ⟨w.heap.size,4,none⟩)) rfl (by kernel_rfl) (fun _ _ _ h=>h) (fun V hV=>by obtain ⟨r0,r1,r2⟩:=hV;go_simp) ?_;refine takeD 12 (.int .i64 (i:Int)) rfl (by kernel_rfl) (fun _ _ _ h=>h) (fun V hV=>by obtain ⟨r0,r1,r2⟩:=hV;go_simp) ?_;refine takeD 13 (.pointer (some ⟨hb,ho+i*4,none⟩)) rfl (by kernel_rfl) (fun _ _ _ h=>h) (fun V hV=>by obtain ⟨r0,r1,r2⟩:=hV;go_simp) ?_;refine takeD 14 (.pointer (some ⟨hb,ho+i*4+3,none⟩)) rfl (by kernel_rfl) (fun _ _ _ h=>h) (fun V hV=>by obtain ⟨r0,r1,r2⟩:=hV;go_simp) ?_;refine takeD 15 (.string ⟨y3.toArray⟩) rfl (by kernel_rfl) (fun _ _ _ h=>h) (fun V hV=>by obtain ⟨r0,r1,r2⟩:=hV;go_simp) ?_
       refine consC (i:=16) (by kernel_rfl) (by kernel_rfl) (HC2.out _ S2.b S2.x) rfl (fun K hK=>?_);go_wp2_with fail
       refine (CW2 _ S2.b).mono ?_;rintro e W3 ⟨rfl,b3⟩;have S3:=S2.below b3;go_wp2_with fail
       refine consC (i:=17) (by kernel_rfl) (by kernel_rfl) (HC2.out _ S3.b S3.x) rfl (fun K hK=>?_);go_wp2_with fail
       have S3':=S3.below ((Below.refl W3.heap.size W3).alloc (Nat.le_refl _) (.cells #[.int .i64 wi] 3));refine consC (i:=18) (by kernel_rfl) (by kernel_rfl) (HC2.out _ S3'.b S3'.x) rfl (fun K hK=>?_);refine wp_push14 rfl _ _ rfl S3 rfl [wi] 1 1 rfl rfl (by simp) ?_;intro lv4 W4 S4 _;go_wp2_with fail
       refine lastC (by kernel_rfl) (by kernel_rfl) (HC2.out _ S4.b S4.x) (of_decide_eq_true (by kernel_rfl)) ?_;refine any_seqI [19] [_] _ _ _ rfl (by kernel_rfl) ?_;go_wp2_with fail
       go_meet
       rw [HF.out];exact S4
    case rest =>
    have S5:=hcut;clear hcut S1;obtain ⟨PB,hPB⟩:∃ x,plB h (k0,k1,k2)=x:=⟨_,rfl⟩
    have HPB:Hid (PL=PB∧EL=PB.filterMap (inT h)):=by
     show _∧_;rw [← HPL.out,← HEL.out,← hPB];unfold plW enW;rw [if_pos hk,if_pos hk];exact ⟨rfl,rfl⟩
    have hpl:PB.length≤3:=by rw [← hPB];unfold plB;split<;>simp
    rw [hPB] at S5;clear hPB e22;obtain ⟨la,lc,hlv,hlc⟩:=own_slice9 S5.l;subst hlv;obtain ⟨np,hnp⟩:∃ x,PB.length=x:=⟨_,rfl⟩;have HNp:=Lib.hid hnp;have hS5:=Lib.hid S5;rw [hnp] at S5 hlc hpl hS5 ⊢;clear hnp;go_wp2_with fail
    go_loopw [8,9] (fun e iv wr=>∃ k:Nat,k≤np∧iv=.int .i64 k∧WS w wr #[.int .i64 lv0,.bool false,.slice oa no oc,.int .i64 k0,.int .i64 k1,.int .i64 k2,.slice ra ng rc] (.slice la np lc) e PB ((PB.take k).filterMap (inT h))) (fun _ iv _=>np - (RowKit.intOf iv).toNat)
    case atStart=>exact ⟨0,Nat.zero_le _,rfl,by simpa using S5⟩
    case round =>
     obtain ⟨k,hkn,rfl,S6⟩:=hrel;have T6:IsInts _ _ PB:=IsRec.own intV_len (by omega) S6.l (by have:=HNp.out;omega);obtain ⟨la',lc',elv,_,_,_,HI⟩:=IsInts.reads T6;rw [HNp.out] at elv;obtain ⟨rfl,rfl⟩:la=la'∧lc=lc':=by simpa using elv
     by_cases hlt:k < np
     ·have j1:(k:Int) < (np:Int):=by omega
      have hk1:k < PB.length:=by have:=HNp.out;omega
      obtain ⟨lb,lo,rfl,HI2⟩:=HI.out (by omega);have d0:=HI2.out k hk1 _ (Below.refl _ _);have HX:Hid (PB.getD k 0=PB[k]):=by show _=_;rw [List.getD_eq_getElem?_getD,List.getElem?_eq_getElem hk1];rfl
      have HE:Hid ((PB.take (k+1)).filterMap (inT h)=(PB.take k).filterMap (inT h)++((inT h (PB.getD k 0)).toList)):=by
       show _=_;rw [List.take_succ_eq_append_getElem hk1,List.filterMap_append,HX.out];cases hI:inT h PB[k]<;>simp [hI]
      generalize PB.getD k 0=x at d0 HE
      have hEl:((PB.take k).filterMap (inT h)).length≤3:=by
       have:=List.length_filterMap_le (inT h) (PB.take k);rw [List.length_take] at this;omega
      by_cases x1:0≤x
      ·by_cases x2:x < (nh:Int)
       ·obtain ⟨i,rfl⟩:∃ i:Nat,x=i:=⟨x.toNat,by omega⟩
        have hi:i < h.length:=by have:=HNh.out;omega
        obtain ⟨hb,ho,rfl,HH2⟩:=HH.out (by omega);obtain ⟨_,c1,_,_⟩:=HH2.out i hi _ S6.b;have HI3:Hid ((inT h (i:Int)).toList=[(ev h i).2.1]):=by show _=_;unfold inT tx;rw [if_pos ⟨by omega,by rw [HNh.out];exact x2⟩,Int.toNat_natCast];rfl
        generalize (ev h i).2.1=y1 at c1 HI3;go_wp2_with (at_builtin;refine wp_push14 rfl _ _ rfl S6.swap rfl [y1] 1 1 rfl rfl (by omega) ?_)
        intro e7 W7 S7 _;go_wp2_with fail
        refine ⟨⟨k+1,by omega,by first | go_num | simp,?_⟩,by simp [RowKit.intOf];omega⟩;rw [HE.out,HI3.out];exact S7.swap
       ·have HI3:Hid ((inT h x).toList=[]):=by show _=_;unfold inT;rw [if_neg (fun hh=>x2 (by rw [← HNh.out];exact hh.2))];rfl
        go_wp2_with fail
        refine ⟨⟨k+1,by omega,by first | go_num | simp,?_⟩,by simp [RowKit.intOf];omega⟩;rw [HE.out,HI3.out,List.append_nil];exact S6
      ·have HI3:Hid ((inT h x).toList=[]):=by show _=_;unfold inT;rw [if_neg (fun hh=>x1 hh.1)];rfl
       go_wp2_with fail
       refine ⟨⟨k+1,by omega,by first | go_num | simp,?_⟩,by simp [RowKit.intOf];omega⟩;rw [HE.out,HI3.out,List.append_nil];exact S6
     ·obtain rfl:k=np:=by omega
      have j1:¬ (k:Int) < (k:Int):=by omega
      have HE:Hid (PB.take k=PB):=by show _=_;rw [← HNp.out,List.take_length]
      rw [HE.out] at S6;go_wp2_with fail
      go_meet
      rw [HPB.out.1,HPB.out.2];exact S6
 case rest =>
 have S8:=hcut;clear hcut S0 f0 f1 f2 f3 f4 f5 f6 HPL HEL HR CW;obtain ⟨la,lc,hlv,hlc⟩:=own_slice9 S8.l;subst hlv;obtain ⟨ea,ec,hev,hec⟩:=own_slice9 S8.e;subst hev;have hpb:Hid (PL.length≤1000000∧EL.length≤1000000):=HLn;have TL:IsInts _ _ PL:=IsRec.own intV_len (by omega) S8.l (by have:=hpb.out;omega);have TE:IsInts _ _ EL:=IsRec.own intV_len (by omega) S8.e (by have:=hpb.out;omega);have B8:=S8.b;clear S8;obtain ⟨la',lc',elv,_,_,_,HI⟩:=IsInts.reads TL;obtain ⟨rfl,rfl⟩:la=la'∧lc=lc':=by simpa using elv
 obtain ⟨ea',ec',eev,_,_,_,HJ⟩:=IsInts.reads TE;obtain ⟨rfl,rfl⟩:ea=ea'∧ec=ec':=by simpa using eev
 obtain ⟨np,hnp⟩:∃ x,PL.length=x:=⟨_,rfl⟩;obtain ⟨ne,hne⟩:∃ x,EL.length=x:=⟨_,rfl⟩;have HNp:=Lib.hid hnp;have HNe:=Lib.hid hne;have hp2:=hpb.out;rw [hnp] at hlc hp2 ⊢;rw [hne] at hec hp2 ⊢;clear hnp hne TL TE elv eev hpb;go_wp2_with fail
 go_loopw [13] (fun iv wr=>∃ k:Nat,k≤np∧iv=.int .i64 k∧Hid (∀ j,j < k→PL.getD j 0≠n)∧Below wc.heap.size wc wr) (fun iv _=>np - (RowKit.intOf iv).toNat)
 case atStart=>exact ⟨0,Nat.zero_le _,rfl,(fun j hj=>by omega),Below.refl _ _⟩
 case round =>
  obtain ⟨k,hk,rfl,HA,hb⟩:=hrel
  by_cases hlt:k < np
  ·have j1:(k:Int) < (np:Int):=by omega
   have hk1:k < PL.length:=by have:=HNp.out;omega
   obtain ⟨lb,lo,rfl,HI2⟩:=HI.out (by omega);have d0:=HI2.out k hk1 _ hb;have HX:Hid (PL.getD k 0=PL[k]):=by show _=_;rw [List.getD_eq_getElem?_getD,List.getElem?_eq_getElem hk1];rfl
   by_cases hx:PL.getD k 0=n
   ·have HF:Hid (rr=true):=by
     show _=_;rw [HRR.out,decide_eq_true (show n∈PL by rw [← hx,HX.out];exact List.getElem_mem hk1)];rfl
    rw [hx] at d0;have e0:(n==n)=true:=beq_self_eq_true _;clear hx;go_wp2_with fail
    go_ret
    exact ⟨by rw [HF.out];rfl,bel_trans B8 hb⟩
   ·have HA2:Hid (∀ j,j < k+1→PL.getD j 0≠n):=fun j hj=>by
     rcases Nat.lt_succ_iff_lt_or_eq.1 hj with h' | rfl
     ·exact HA.out j h'
     ·exact hx
    generalize PL.getD k 0=x at d0 hx;have e0:(x==n)=false:=beq_eq_false_iff_ne.2 hx;clear hx;go_wp2_with fail
    refine ⟨⟨k+1,by omega,by first | go_num | simp,HA2,hb⟩,by simp [RowKit.intOf];omega⟩
  ·obtain rfl:k=np:=by omega
   have j1:¬ (k:Int) < (k:Int):=by omega
   have HNo:Hid (decide (n∈PL)=false):=decide_eq_false (fun hn=>by
    obtain ⟨j,hj,rfl⟩:=List.getElem_of_mem hn;have:=HA.out j (by have:=HNp.out;omega);rw [List.getD_eq_getElem?_getD,List.getElem?_eq_getElem hj] at this;exact this rfl)
   obtain ⟨wA,rfl⟩:∃ wA,wA=wr:=⟨_,rfl⟩;clear HA HI;go_wp2_with fail
   go_loopw [14] (fun iv wr=>∃ k:Nat,k≤ne∧iv=.int .i64 k∧Hid (∀ j,j < k→endsAt h (EL.getD j 0) n=false)∧Below wc.heap.size wc wr) (fun iv _=>ne - (RowKit.intOf iv).toNat)
   case atStart=>exact ⟨0,Nat.zero_le _,rfl,(fun j hj=>by omega),hb⟩
   case round =>
    obtain ⟨y,hy,rfl,HA,hb2⟩:=hrel
    by_cases hlt:y < ne
    ·have j2:(y:Int) < (ne:Int):=by omega
     have hk1:y < EL.length:=by have:=HNe.out;omega
     obtain ⟨eb,eo,rfl,HJ2⟩:=HJ.out (by omega);have d0:=HJ2.out y hk1 _ hb2;have HX:Hid (EL.getD y 0∈EL):=by show _∈_;rw [List.getD_eq_getElem?_getD,List.getElem?_eq_getElem hk1];exact List.getElem_mem hk1
     have HA2:Hid (endsAt h (EL.getD y 0) n=false→∀ j,j < y+1→endsAt h (EL.getD j 0) n=false):=fun hx j hj=>by
      rcases Nat.lt_succ_iff_lt_or_eq.1 hj with h' | rfl
      ·exact HA.out j h'
      ·exact hx
     generalize EL.getD y 0=t at d0 HX HA2;go_wp2_with fail
     refine (CF.out t _ (bel_trans B8 hb2)).mono ?_;rintro e w9 ⟨rfl,b9⟩;have B9:=bel_trans hb2 b9;cases hf:findL h t with
     | none =>
       have HN:Hid (endsAt h t n=false):=by show _=_;unfold endsAt;rw [hf]
       have e1:findP h t=((0,0,0,false),false):=by unfold findP;rw [hf]
       rw [e1];clear e1 hf;have X9:=SBox.new w9 174 #[.int .i64 0,.int .i64 0,.int .i64 0,.bool false];have BX:=B9.alloc B9.size (.cells #[.int .i64 0,.int .i64 0,.int .i64 0,.bool false] 174);go_wp2_with fail
       refine ⟨⟨y+1,by omega,by first | go_num | simp,HA2.out HN.out,BX⟩,by simp [RowKit.intOf];omega⟩
     | some q =>
       obtain ⟨q0,q1,q2,q3⟩:=q;have e1:findP h t=((q0,q1,q2,q3),true):=by unfold findP;rw [hf]
       have HN:Hid (endsAt h t n=decide ((q2:Int)=n)):=by show _=_;unfold endsAt;rw [hf]
       rw [e1];clear e1 hf;have X9:=SBox.new w9 174 #[.int .i64 q0,.int .i64 (q1:Int),.int .i64 (q2:Int),.bool q3];have BX:=B9.alloc B9.size (.cells #[.int .i64 q0,.int .i64 (q1:Int),.int .i64 (q2:Int),.bool q3] 174);have x2:=X9.cell 2 _ rfl
       by_cases hq:(q2:Int)=n
       ·have HF:Hid (rr=true):=by
         show _=_;rw [HRR.out,List.any_eq_true.2 ⟨t,HX.out,by rw [HN.out];exact decide_eq_true hq⟩,Bool.or_true]
        have e0:((q2:Int)==n)=true:=beq_iff_eq.2 hq;clear hq;go_wp2_with fail
        go_ret
        exact ⟨by rw [HF.out];rfl,bel_trans B8 BX⟩
       ·rw [decide_eq_false hq] at HN
        have e0:((q2:Int)==n)=false:=beq_eq_false_iff_ne.2 hq;clear hq;go_wp2_with fail
        refine ⟨⟨y+1,by omega,by first | go_num | simp,HA2.out HN.out,BX⟩,by simp [RowKit.intOf];omega⟩
    ·obtain rfl:y=ne:=by omega
     have j2:¬ (y:Int) < (y:Int):=by omega
     have HF:Hid (rr=false):=by
      show _=_;rw [HRR.out,HNo.out,Bool.false_or,List.any_eq_false];intro t ht;obtain ⟨j,hj,rfl⟩:=List.getElem_of_mem ht;have:=HA.out j (by have:=HNe.out;omega);rw [List.getD_eq_getElem?_getD,List.getElem?_eq_getElem hj] at this;simpa using this
     go_wp2_with fail
     go_ret
     exact ⟨by rw [HF.out];rfl,bel_trans B8 hb2⟩
end Go.Proofs.YthamoeekiglphaaGreatDoor
