/-
  Histories without reads: in lists, of no program. What cartoucheref08.Find answers. What cartoucheref08.Lives answers.
-/
import Derived.Test.YtiihegldhnlleaaGreatCL0b
namespace Go.Proofs.YtiihegldhnlleaaGreat
set_option maxRecDepth 100000
set_option linter.unusedVariables false
theorem still_clean (k:List Ev) (hr:∀ x∈k,x.1≠2):clean k:=by
 intro i hi
 rw [at_no]
 intro hc
 have:=hc.2.1
 rw [ev_get _ _ hi] at this
 exact hr _ (List.getElem_mem hi) this
theorem still_walk (k:List Ev) (hr:∀ x∈k,x.1≠2):noWalk (stepsL 1 (edgesL k)):=by
 have fwd:∀ e∈edgesL k,∃ a b,commL k e.2.1=some a∧commL k e.2.2.1=some b∧a < b:=by
  intro e he
  obtain ⟨key,⟨n,hn,rfl⟩ | ⟨i,hc,_⟩⟩:=edge_cases k e he
  ·obtain ⟨a1,a2,a3,a4,a5⟩:=ver_facts k key n (by omega)
   obtain ⟨b1,b2,b3,b4,b5⟩:=ver_facts k key (n+1) hn
   exact ⟨_,_,a2,b2,src_lt k key n (n+1) (by omega) hn⟩
  ·exfalso
   have:=hc.2.1
   rw [ev_get _ _ hc.1] at this
   exact hr _ (List.getElem_mem hc.1) this
 have go:∀ n x y,Walk (stepsL 1 (edgesL k)) (n+1) x y→∃ a b,commL k x=some a∧commL k y=some b∧a < b:=by
  intro n
  induction n with
  | zero =>
    rintro x y ⟨s,hs,hw,rfl⟩
    obtain rfl:s.2.1=y:=hw
    rcases steps_cases 1 (edgesL k) s hs with ⟨e,he,_,rfl⟩ | ⟨h2,_⟩
    ·exact fwd e he
    ·exact absurd h2 (by decide)
  | succ n ih =>
    rintro x y ⟨s,hs,hw,rfl⟩
    obtain ⟨a,b,h1,h2,h3⟩:=ih _ _ hw
    rcases steps_cases 1 (edgesL k) s hs with ⟨e,he,_,rfl⟩ | ⟨h2,_⟩
    ·obtain ⟨c,d,g1,g2,g3⟩:=fwd e he
     have h1':commL k e.2.2.1=some a:=h1
     rw [g2] at h1'
     cases h1'
     exact ⟨c,b,g1,h2,by omega⟩
    ·exact absurd h2 (by decide)
 intro n a hn hw
 obtain ⟨m,rfl⟩:∃ m,n=m+1:=⟨n - 1,by omega⟩
 obtain ⟨p,q,h1,h2,h3⟩:=go m a a hw
 rw [h1] at h2
 cases h2
 omega
theorem ev_mem (h:List Ev) (i:Nat) (hi:i < h.length):ev h i∈h:=by rw [ev_get _ _ hi];exact List.getElem_mem hi
theorem mem_ev (h:List Ev) (x:Ev) (hx:x∈h):∃ i,i < h.length∧ev h i=x:=by
 obtain ⟨i,hi,e⟩:=List.getElem_of_mem hx
 exact ⟨i,hi,by rw [ev_get _ _ hi];exact e⟩
def Sound1 (p:List Ev) (x:Ev):Prop:=mayE x∧(x.1=1→∀ y∈p,y.2.1≠x.2.1)∧(x.1≠1→(∃ y∈p,y.2.1=x.2.1)∧(∀ y∈p,¬ endB y x.2.1)∧(x.1=3→∀ y∈p,¬ (y.1=3∧y.2.2.2=x.2.2.2)))
theorem wf_still (k:List Ev) (hr:∀ x∈k,x.1≠2) (hl:k.length≤256) (hs:∀ p x s,k=p++x::s→Sound1 p x) (he:∀ x∈k,∃ y∈k,endB y x.2.1):WF k:=by
 refine ⟨hl,fun i hi=>?_,fun i hi=>?_⟩
 ·have hsp:k=k.take i++ev k i::k.drop (i+1):=by
   rw [ev_get _ _ hi,List.getElem_cons_drop,List.take_append_drop]
  obtain ⟨s1,s2,s3⟩:=hs _ _ _ hsp
  have tk:∀ j,j < i→ev k j∈k.take i:=fun j hj=>by
   rw [← ev_take k i j hj (by omega)]
   exact ev_mem _ _ (by rw [List.length_take];omega)
  rw [formStep_zero]
  refine ⟨s1,fun h1=>?_,fun h1=>?_⟩
  ·rw [fstL_none]
   intro j hj
   exact s2 h1 _ (tk j hj)
  ·obtain ⟨t1,t2,t3⟩:=s3 h1
   refine ⟨fun hn=>?_,?_,fun h3=>?_,fun h2=>absurd h2 (hr _ (ev_mem k i hi))⟩
   ·obtain ⟨y,hy,ey⟩:=t1
    obtain ⟨j,hj,rfl⟩:=mem_ev _ _ hy
    rw [List.length_take] at hj
    rw [ev_take k i j (by omega) (by omega)] at ey
    exact (fstL_none _ _ _).1 hn j (by omega) ey
   ·rw [endL_none]
    intro j hj
    exact t2 _ (tk j hj)
   ·rw [sameVal_none]
    intro j hj
    exact t3 h3 _ (tk j hj)
 ·intro hn
  obtain ⟨y,hy,ey⟩:=he _ (ev_mem k i hi)
  obtain ⟨j,hj,rfl⟩:=mem_ev _ _ hy
  exact (endL_none _ _ _).1 hn j hj ey
theorem split_flat {α β:Type} (f:α→List β):∀ (L:List α) (p:List β) (x:β) (s:List β),L.flatMap f=p++x::s→∃ l1 y l2 b1 b2,L=l1++y::l2∧f y=b1++x::b2∧p=l1.flatMap f++b1
 | [],p,x,s,h=>by simp at h
 | a::L,p,x,s,h=>by
   rw [List.flatMap_cons] at h
   rcases List.append_eq_append_iff.1 h with ⟨q,h1,h2⟩ | ⟨q,h1,h2⟩
   ·obtain ⟨l1,y,l2,b1,b2,e1,e2,e3⟩:=split_flat f L q x s h2
    exact ⟨a::l1,y,l2,b1,b2,by rw [e1];rfl,e2,by rw [h1,e3,List.flatMap_cons,List.append_assoc]⟩
   ·cases q with
    | nil =>
      rw [List.nil_append] at h2
      rw [List.append_nil] at h1
      obtain ⟨l1,y,l2,b1,b2,e1,e2,e3⟩:=split_flat f L [] x s (by rw [← h2];rfl)
      refine ⟨a::l1,y,l2,b1,b2,by rw [e1];rfl,e2,?_⟩
      rw [List.flatMap_cons,List.append_assoc,← e3,List.append_nil,h1]
    | cons z q =>
      simp only [List.cons_append,List.cons.injEq] at h2
      obtain ⟨rfl,h2⟩:=h2
      exact ⟨[],a,L,p,q,rfl,h1,by simp⟩
def ownOf (h:List Ev) (t:Int):List Ev:=h.filter fun x=>decide (x.2.1=t∧x.1≠2)
def aloneL (h:List Ev):List Ev:=(livesL h).flatMap fun y=>ownOf h y.1
theorem own_mem (h:List Ev) (t:Int) (x:Ev):x∈ownOf h t↔x∈h∧x.2.1=t∧x.1≠2:=by
 unfold ownOf
 rw [List.mem_filter,decide_eq_true_eq]
theorem own_split (h:List Ev) (t:Int) (b1 b2:List Ev) (x:Ev) (hh:ownOf h t=b1++x::b2):∃ p s,h=p++x::s∧b1=ownOf p t:=by
 unfold ownOf at hh
 obtain ⟨l1,l2,e1,e2,e3⟩:=List.filter_eq_append_iff.1 hh
 obtain ⟨m1,m2,f1,f2,f3,f4⟩:=List.filter_eq_cons_iff.1 e3
 refine ⟨l1++m1,m2,by rw [e1,f1,List.append_assoc],?_⟩
 unfold ownOf
 rw [List.filter_append,e2,List.filter_eq_nil_iff.2 f2,List.append_nil]
theorem lives_txn (h:List Ev):((livesL h).map fun y=>y.1).Nodup:=by
 unfold livesL
 rw [List.map_filterMap]
 refine List.Pairwise.filterMap (R:=fun a b:Nat=>a < b) _ ?_ List.pairwise_lt_range
 intro a b hab x hx y hy exy
 have key:∀ i z,(Option.map (fun y:Int × Nat × Nat × Bool=>y.1) (if fstL h (ev h i).2.1 i=none then findL h (ev h i).2.1 else none))=some z→fstL h (ev h i).2.1 i=none∧(ev h i).2.1=z:=by
  intro i z hz
  by_cases h0:fstL h (ev h i).2.1 i=none
  ·rw [if_pos h0] at hz
   refine ⟨h0,?_⟩
   unfold findL at hz
   cases hf:fstL h (ev h i).2.1 h.length with
   | none=>rw [hf] at hz;cases hz
   | some q =>
     rw [hf] at hz
     simp only at hz
     cases he:endL h (ev h i).2.1 h.length with
     | none=>rw [he] at hz;exact Option.some.inj hz
     | some e=>rw [he] at hz;exact Option.some.inj hz
  ·rw [if_neg h0] at hz;cases hz
 obtain ⟨a1,a2⟩:=key a x hx
 obtain ⟨b1,b2⟩:=key b y hy
 exact (fstL_none h _ b).1 b1 a hab (by rw [a2,b2,exy])
theorem alone_mem (h:List Ev) (x:Ev) (hx:x∈aloneL h):x∈h∧x.1≠2:=by
 unfold aloneL at hx
 obtain ⟨y,hy,hx⟩:=List.mem_flatMap.1 hx
 have:=(own_mem h _ x).1 hx
 exact ⟨this.1,this.2.2⟩
theorem part_len {α:Type} (p:α→Bool):∀ l:List α,l.length=(l.filter p).length+(l.filter fun x=>!p x).length
 | []=>rfl
 | x::l=>by
   have:=part_len p l
   cases hp:p x with
   | true=>rw [List.filter_cons_of_pos hp,List.filter_cons_of_neg (by simp [hp]),List.length_cons,List.length_cons];omega
   | false=>rw [List.filter_cons_of_neg (by simp [hp]),List.filter_cons_of_pos (by simp [hp]),List.length_cons,List.length_cons];omega
theorem own_len (ts:List Int):∀ (h:List Ev),ts.Nodup→(ts.flatMap fun t=>ownOf h t).length≤h.length:=by
 induction ts with
 | nil=>intro h _;simp
 | cons t ts ih =>
   intro h hn
   rw [List.nodup_cons] at hn
   have e:(ts.flatMap fun t=>ownOf h t)=ts.flatMap fun t'=>ownOf (h.filter fun x=>!decide (x.2.1=t)) t':=by
    have:∀ t'∈ts,ownOf h t'=ownOf (h.filter fun x=>!decide (x.2.1=t)) t':=by
     intro t' ht'
     unfold ownOf
     rw [List.filter_filter]
     congr 1
     funext x
     by_cases h1:x.2.1=t'
     ·have:¬ x.2.1=t:=fun e=>hn.1 (by rw [← e,h1];exact ht')
      simp [h1]
      intro _ e
      exact this (by rw [h1,e])
     ·simp [h1]
    rw [List.flatMap_def,List.flatMap_def,List.map_congr_left this]
   have h2:=ih (h.filter fun x=>!decide (x.2.1=t)) hn.2
   have h3:(ownOf h t).length≤(h.filter fun x=>decide (x.2.1=t)).length:=by
    unfold ownOf
    have:(h.filter fun x=>decide (x.2.1=t∧x.1≠2))=(h.filter fun x=>decide (x.2.1=t)).filter fun x=>decide (x.1≠2):=by
     rw [List.filter_filter]
     congr 1
     funext x
     by_cases h1:x.2.1=t<;>by_cases h2:x.1=2<;>simp [h1,h2]
    rw [this]
    exact List.length_filter_le _ _
   have h4:=part_len (fun x:Ev=>decide (x.2.1=t)) h
   rw [List.flatMap_cons,List.length_append,e]
   omega
theorem alone_len (h:List Ev):(aloneL h).length≤h.length:=by
 have e:aloneL h=((livesL h).map fun y=>y.1).flatMap fun t=>ownOf h t:=by
  unfold aloneL;rw [List.flatMap_map]
 rw [e]
 exact own_len _ h (lives_txn h)
theorem alone_wf {h:List Ev} (hw:WF h):WF (aloneL h):=by
 refine wf_still _ (fun x hx=>(alone_mem h x hx).2) (Nat.le_trans (alone_len h) hw.1) (fun p x s hs=>?_) (fun x hx=>?_)
 ·unfold aloneL at hs
  obtain ⟨l1,y,l2,b1,b2,e1,e2,e3⟩:=split_flat _ _ _ _ _ hs
  obtain ⟨p',s',f1,f2⟩:=own_split h y.1 b1 b2 x e2
  have hx:=(own_mem h y.1 x).1 (by rw [e2];simp)
  have hi:p'.length < h.length:=by rw [f1];simp
  have hev:ev h p'.length=x:=by rw [f1];exact (ev_right p' (x::s') 0 (by simp)).trans rfl
  have hpj:∀ z∈p',∃ j,j < p'.length∧ev h j=z:=fun z hz=>by
   obtain ⟨j,hj,e⟩:=mem_ev p' z hz
   exact ⟨j,hj,by rw [f1,ev_left _ _ _ hj];exact e⟩
  have old:∀ z∈l1.flatMap (fun y=>ownOf h y.1),z.2.1≠x.2.1∧z∈h:=fun z hz=>by
   obtain ⟨y',hy',hz⟩:=List.mem_flatMap.1 hz
   have hz:=(own_mem h y'.1 z).1 hz
   refine ⟨fun e=>?_,hz.1⟩
   have nd:=lives_txn h
   rw [e1,List.map_append,List.map_cons,List.nodup_append] at nd
   exact nd.2.2 y'.1 (List.mem_map.2 ⟨y',hy',rfl⟩) y.1 (List.mem_cons_self ..) (by rw [← hz.2.1,e,hx.2.1])
  have new:∀ z∈b1,z∈p'∧z.2.1=y.1:=fun z hz=>by
   rw [f2] at hz
   have:=(own_mem p' y.1 z).1 hz
   exact ⟨this.1,this.2.1⟩
  have parts:∀ z∈p,(z.2.1≠x.2.1∧z∈h)∨z∈p':=fun z hz=>by
   rw [e3] at hz
   rcases List.mem_append.1 hz with hz | hz
   ·exact .inl (old z hz)
   ·exact .inr (new z hz).1
  refine ⟨by rw [← hev];exact wf_may hw hi,fun h1 z hz=>?_,fun h1=>⟨?_,fun z hz=>?_,fun h3 z hz=>?_⟩⟩
  ·rcases parts z hz with hh | hh
   ·exact hh.1
   ·obtain ⟨j,hj,rfl⟩:=hpj z hh
    rw [← hev] at h1 ⊢
    exact wf_first hw hi h1 hj
  ·obtain ⟨f,e,g1,g2,g3,g4,g5,g6,g7⟩:=wf_life hw hi
   rw [hev] at g1 g6
   obtain ⟨q1,q2,q3⟩:=(fstL_some _ _ _ _).1 g1
   have hlt:f < p'.length:=by
    rcases Nat.lt_or_ge f p'.length with hh | hh
    ·exact hh
    ·exact absurd (g6.2 (by omega)) h1
   have k1:(ev h f).1=1:=by
    obtain ⟨f',e',r1,r2,r3,r4,r5,r6,r7⟩:=wf_life hw q1
    rw [q2] at r1
    rw [g1] at r1
    cases r1
    exact r6.2 rfl
   refine ⟨ev h f,?_,q2⟩
   rw [e3,f2]
   refine List.mem_append.2 (.inr ((own_mem p' y.1 _).2 ⟨?_,by rw [q2,hx.2.1],by rw [k1];decide⟩))
   have:ev h f=ev p' f:=by rw [f1];exact ev_left _ _ _ hlt
   rw [this]
   exact ev_mem p' f hlt
  ·rcases parts z hz with hh | hh
   ·exact fun e=>hh.1 e.1
   ·obtain ⟨j,hj,rfl⟩:=hpj z hh
    rw [← hev]
    exact wf_open hw hi hj
  ·rintro ⟨z3,zv⟩
   rcases parts z hz with hh | hh
   ·obtain ⟨j,hj,rfl⟩:=mem_ev h z hh.2
    rw [← hev] at h3 zv hh
    have:=wr_one hw hj hi z3 h3 zv
    rw [this] at hh
    exact hh.1 rfl
   ·obtain ⟨j,hj,rfl⟩:=hpj z hh
    rw [← hev] at h3 zv
    exact wf_vals hw hi h3 hj z3 zv
 ·unfold aloneL at hx
  obtain ⟨y,hy,hx⟩:=List.mem_flatMap.1 hx
  have hxo:=(own_mem h y.1 x).1 hx
  obtain ⟨i,hi,rfl⟩:=mem_ev h x hxo.1
  obtain ⟨f,e,g1,g2,g3,g4,g5,g6,g7⟩:=wf_life hw hi
  obtain ⟨q1,q2,q3⟩:=(endL_some _ _ _ _).1 g2
  refine ⟨ev h e,?_,q2⟩
  unfold aloneL
  refine List.mem_flatMap.2 ⟨y,hy,(own_mem h y.1 _).2 ⟨ev_mem h e q1,by rw [q2.1,hxo.2.1],?_⟩⟩
  rcases q2.2 with hh | hh<;>rw [hh]<;>decide
theorem judge_alone {h:List Ev} (hw:WF h) (level:Int) (hl:level=1∨level=2):(judgeL (aloneL h) level).2=0∧(judgeL (aloneL h) level).1.2.1=true:=by
 have hr:∀ x∈aloneL h,x.1≠2:=fun x hx=>(alone_mem h x hx).2
 have hg:=judge_good (alone_wf hw) level hl
 refine ⟨hg.1,hg.2.2.2 ⟨still_clean _ hr,?_⟩⟩
 rcases hl with rfl | rfl
 ·exact still_walk _ hr
 ·exact snap_serial _ (still_walk _ hr)
open Go.RowKit
attribute [local go_sem] ba_size
set_option maxHeartbeats 2000000 in
theorem rfind_any (h:List Ev) (v:Value) (w:World) (hT:IsEvs w v h) (t:Int) :
 Calls Tryz.prog 40 #[v,.int .i64 t] w fun e w'=>e=.returned (.tuple #[lifA (findP h t).1,.bool (findP h t).2])∧Below w.heap.size w w':=by
 have C1:=fun W hW=>rfirst_any h v W (hT.below (w':=W) hW) t h.length (Nat.le_refl _)
 have C2:=fun W hW=>rend_any h v W (hT.below (w':=W) hW) t h.length (Nat.le_refl _)
 have R0:=SBox.new w 51 #[.int .i64 0,.int .i64 0,.int .i64 0,.bool false]
 have B0:=(Below.refl w.heap.size w).alloc (Nat.le_refl _) (.cells #[.int .i64 0,.int .i64 0,.int .i64 0,.bool false] 51)
 obtain ⟨a,cap,rfl,h1,h2,h3,HC⟩:=hT.reads
 obtain ⟨n,hn⟩:∃ n,h.length=n:=⟨_,rfl⟩
 have HN:Hid (h.length=n):=hn
 rcases hf:fstL h t h.length with _ | f
 ·have HP:findP h t=((0,0,0,false),false):=by unfold findP findL;rw [hf]
  rw [HP]
  rw [hf] at C1
  rw [hn] at h1 h3 C1 C2 ⊢
  simp only [oI] at C1
  clear hf HP hn hT
  go_enter Tryz.func40,Tryz.ntmps40
  go_wp2_with fail
  refine (C1 _ B0).mono ?_
  rintro e w1 ⟨rfl,b1⟩
  have R1:=R0.below b1
  have B1:=bel_trans B0 b1
  have r0:=R1.cell 0 _ rfl
  have r1:=R1.cell 1 _ rfl
  have r2:=R1.cell 2 _ rfl
  have r3:=R1.cell 3 _ rfl
  have g0:=R1.frozen 0
  have g1:=R1.frozen 1
  have g2:=R1.frozen 2
  have g3:=R1.frozen 3
  go_wp2_with fail
  generalize hW:World.setCell _ _ _=W
  have RW:SBox W w.heap.size 51 #[.int .i64 0,.int .i64 0,.int .i64 0,.bool false]:=by rw [← hW];exact R1.put4 _ _ _ _
  have BZ:Below w.heap.size w W:=by rw [← hW];exact bel_put4 B1 (Nat.le_refl _) _ _ _ _
  exact bodyPost_ret (v:=.tuple #[lifA (0,0,0,false),.bool false]) (results_row_tmp Tryz.results40 _ _ w.heap.size 51 _ (0,0) _ rfl RW Tryz.underlying51 rfl size_lif) rfl ⟨rfl,BZ⟩
 ·rcases he:endL h t h.length with _ | g
  ·have HP:findP h t=((t,f,h.length,false),true):=by unfold findP findL;rw [hf];simp only;rw [he]
   rw [HP]
   rw [hf] at C1
   rw [he] at C2
   rw [hn] at h1 h3 C1 C2 ⊢
   simp only [oI] at C1 C2
   have jf:¬ (f:Int) < 0:=by omega
   clear hf he HP hn hT
   go_enter Tryz.func40,Tryz.ntmps40
   go_wp2_with fail
   refine (C1 _ B0).mono ?_
   rintro e w1 ⟨rfl,b1⟩
   have R1:=R0.below b1
   have B1:=bel_trans B0 b1
   go_wp2_with fail
   refine (C2 _ B1).mono ?_
   rintro e w2 ⟨rfl,b2⟩
   have R2:=R1.below b2
   have B2:=bel_trans B1 b2
   have r0:=R2.cell 0 _ rfl
   have r1:=R2.cell 1 _ rfl
   have r2:=R2.cell 2 _ rfl
   have r3:=R2.cell 3 _ rfl
   have g0:=R2.frozen 0
   have g1:=R2.frozen 1
   have g2:=R2.frozen 2
   have g3:=R2.frozen 3
   go_wp2_with fail
   generalize hW:World.setCell _ _ _=W
   have RW:SBox W w.heap.size 51 #[.int .i64 t,.int .i64 (f:Int),.int .i64 (n:Int),.bool false]:=by rw [← hW];exact R2.put4 _ _ _ _
   have BZ:Below w.heap.size w W:=by rw [← hW];exact bel_put4 B2 (Nat.le_refl _) _ _ _ _
   exact bodyPost_ret (v:=.tuple #[lifA (t,f,n,false),.bool true]) (results_row_tmp Tryz.results40 _ _ w.heap.size 51 _ (0,0) _ rfl RW Tryz.underlying51 rfl size_lif) rfl ⟨rfl,BZ⟩
  ·have hgl:=((fi_some _ _ _).1 he).1
   obtain ⟨bb,off,rfl,HQ⟩:=HC.out (by omega)
   have HP:findP h t=((t,f,g,decide ((ev h g).1=4)),true):=by unfold findP findL;rw [hf];simp only;rw [he]
   rw [HP]
   rw [hf] at C1
   rw [he] at C2
   rw [hn] at h1 h3 C1 C2 ⊢
   simp only [oI] at C1 C2
   have jf:¬ (f:Int) < 0:=by omega
   have jg:¬ (g:Int) < 0:=by omega
   have jl:g < n:=by have:=HN.out;omega
   obtain ⟨x0,hx⟩:∃ x,(ev h g).1=x:=⟨_,rfl⟩
   have HX:Hid ((ev h g).1=x0):=hx
   have HG:Hid (g < h.length):=hgl
   rw [hx]
   by_cases d:x0=4
   ·have e4:(x0==4)=true:=by rw [d];rfl
    rw [decide_eq_true d]
    clear hf he HP hn hT hgl hx
    go_enter Tryz.func40,Tryz.ntmps40
    go_wp2_with fail
    refine (C1 _ B0).mono ?_
    rintro e w1 ⟨rfl,b1⟩
    have R1:=R0.below b1
    have B1:=bel_trans B0 b1
    go_wp2_with fail
    refine (C2 _ B1).mono ?_
    rintro e w2 ⟨rfl,b2⟩
    have R2:=R1.below b2
    have B2:=bel_trans B1 b2
    have cc:=(HQ.out g HG.out _ B2).1
    rw [HX.out] at cc
    have r0:=R2.cell 0 _ rfl
    have r1:=R2.cell 1 _ rfl
    have r2:=R2.cell 2 _ rfl
    have r3:=R2.cell 3 _ rfl
    have g0:=R2.frozen 0
    have g1:=R2.frozen 1
    have g2:=R2.frozen 2
    have g3:=R2.frozen 3
    go_wp2_with fail
    generalize hW:World.setCell _ _ _=W
    have RW:SBox W w.heap.size 51 #[.int .i64 t,.int .i64 (f:Int),.int .i64 (g:Int),.bool true]:=by rw [← hW];exact R2.put4 _ _ _ _
    have BZ:Below w.heap.size w W:=by rw [← hW];exact bel_put4 B2 (Nat.le_refl _) _ _ _ _
    exact bodyPost_ret (v:=.tuple #[lifA (t,f,g,true),.bool true]) (results_row_tmp Tryz.results40 _ _ w.heap.size 51 _ (0,0) _ rfl RW Tryz.underlying51 rfl size_lif) rfl ⟨rfl,BZ⟩
   ·have e4:(x0==4)=false:=beq_eq_false_iff_ne.2 d
    rw [decide_eq_false d]
    clear hf he HP hn hT hgl hx
    go_enter Tryz.func40,Tryz.ntmps40
    go_wp2_with fail
    refine (C1 _ B0).mono ?_
    rintro e w1 ⟨rfl,b1⟩
    have R1:=R0.below b1
    have B1:=bel_trans B0 b1
    go_wp2_with fail
    refine (C2 _ B1).mono ?_
    rintro e w2 ⟨rfl,b2⟩
    have R2:=R1.below b2
    have B2:=bel_trans B1 b2
    have cc:=(HQ.out g HG.out _ B2).1
    rw [HX.out] at cc
    have r0:=R2.cell 0 _ rfl
    have r1:=R2.cell 1 _ rfl
    have r2:=R2.cell 2 _ rfl
    have r3:=R2.cell 3 _ rfl
    have g0:=R2.frozen 0
    have g1:=R2.frozen 1
    have g2:=R2.frozen 2
    have g3:=R2.frozen 3
    go_wp2_with fail
    generalize hW:World.setCell _ _ _=W
    have RW:SBox W w.heap.size 51 #[.int .i64 t,.int .i64 (f:Int),.int .i64 (g:Int),.bool false]:=by rw [← hW];exact R2.put4 _ _ _ _
    have BZ:Below w.heap.size w W:=by rw [← hW];exact bel_put4 B2 (Nat.le_refl _) _ _ _ _
    exact bodyPost_ret (v:=.tuple #[lifA (t,f,g,false),.bool true]) (results_row_tmp Tryz.results40 _ _ w.heap.size 51 _ (0,0) _ rfl RW Tryz.underlying51 rfl size_lif) rfl ⟨rfl,BZ⟩
def liveAt (h:List Ev) (i:Nat):Option Lf:=if fstL h (ev h i).2.1 i=none then findL h (ev h i).2.1 else none
theorem lives_next (h:List Ev) (k:Nat):(List.range (k+1)).filterMap (liveAt h)=(List.range k).filterMap (liveAt h)++(liveAt h k).toList:=by
 rw [List.range_succ,List.filterMap_append]
 cases hl:liveAt h k with
 | none=>simp [hl]
 | some x=>simp [hl]
set_option maxHeartbeats 2000000 in
theorem rlives_any (h:List Ev) (v:Value) (w:World) (hT:IsEvs w v h) (hle:h.length≤300) :
 Calls Tryz.prog 22 #[v] w fun e w'=>LfRow 51 w (livesL h) e w':=by
 obtain ⟨i0,hi,hz0,hz1,hz2⟩:=info_parts lif_info
 have C1:=fun (t:Int) (m:Nat) (hm:m≤h.length) W hW=>rfirst_any h v W (hT.below (w':=W) hW) t m hm
 have C2:=fun (t:Int) W hW=>rfind_any h v W (hT.below (w':=W) hW) t
 obtain ⟨a,cap,rfl,h1,h2,h3,HC⟩:=hT.reads
 obtain ⟨n,hn⟩:∃ n,h.length=n:=⟨_,rfl⟩
 have HN:Hid (h.length=n):=hn
 rw [hn] at h1 h3 hle ⊢
 simp only [hn] at C1 C2
 clear hT hn
 go_enter Tryz.func22,Tryz.ntmps22
 go_wp2_with fail
 go_loopw [3,4] (fun r i wr=>∃ (k c:Nat),k≤n∧c≤k∧i=.int .i64 k∧Hid (((List.range k).filterMap (liveAt h)).length=c)∧Below w.heap.size w wr∧wr.ownsRow w.heap.size 51 4 r c (recV lifV ((List.range k).filterMap (liveAt h)))) (fun _ i _=>n - (intOf i).toNat)
 case atStart=>exact ⟨0,0,Nat.zero_le _,Nat.zero_le _,rfl,rfl,Below.refl _ _,World.ownsRow_nil _ _ _ _⟩
 case round =>
  obtain ⟨k,c,hk,hc,rfl,HL,hbw,hrow⟩:=hrel
  by_cases hlt:k < n
  ·have hk1:k < h.length:=by have:=HN.out;omega
   obtain ⟨bb,off,rfl,HQ⟩:=HC.out (by omega)
   obtain ⟨c0,c1,c2,c3⟩:=HQ.out k hk1 _ hbw
   obtain ⟨⟨x0,x1,x2,x3⟩,hx⟩:∃ x,ev h k=x:=⟨_,rfl⟩
   have HX:Hid (ev h k=(x0,x1,x2,x3)):=hx
   rw [hx] at c0 c1 c2 c3
   simp only at c0 c1 c2 c3
   clear hx
   have D1:=C1 x1 k (by omega)
   have D2:=C2 x1
   by_cases d:fstL h x1 k=none
   ·rw [d] at D1
    simp only [oI] at D1
    obtain ⟨⟨y0,y1,y2,y3⟩,hy⟩:∃ x,findL h x1=some x:=by have:=find_has h k hk1;rw [HX.out] at this;exact this
    have HA:Hid (liveAt h k=some (y0,y1,y2,y3)):=by show _=_;unfold liveAt;rw [HX.out,if_pos d];exact hy
    rw [findP_of hy] at D2
    have HV:Hid (recV lifV ((List.range (k+1)).filterMap (liveAt h))=recV lifV ((List.range k).filterMap (liveAt h))++[.int .i64 y0,.int .i64 (y1:Int),.int .i64 (y2:Int),.bool y3]):=by
     show _=_
     rw [lives_next,HA.out,recV_append]
     rfl
    have HL':Hid (((List.range (k+1)).filterMap (liveAt h)).length=c+1):=by show _=_;rw [lives_next,HA.out,List.length_append,HL.out];rfl
    obtain ⟨DR,hDR⟩:∃ d,recV lifV ((List.range k).filterMap (liveAt h))=d:=⟨_,rfl⟩
    rw [hDR] at hrow HV
    clear hDR hy d
    go_wp2_with fail
    refine (D1 _ hbw).mono ?_
    rintro e w1 ⟨rfl,b1⟩
    have B1:=bel_trans hbw b1
    have m1:=(HQ.out k hk1 _ B1).2.1
    rw [HX.out] at m1
    have O1:=owns_below hrow b1
    go_wp2_with fail
    refine (D2 _ B1).mono ?_
    rintro e w2 ⟨rfl,b2⟩
    have B2:=bel_trans B1 b2
    have O2:=owns_below O1 b2
    have B2':=B2.alloc B2.size (.cells #[.int .i64 y0,.int .i64 (y1:Int),.int .i64 (y2:Int),.bool y3] 51)
    have O2':=O2.alloc (.cells #[.int .i64 y0,.int .i64 (y1:Int),.int .i64 (y2:Int),.bool y3] 51)
    have sz:=B2.size
    go_wp2_with (at_builtin;refine wpList_append_own _ rfl _ _ 46 rfl w.heap.size 51 i0 (.agg #[.int .i64 0,.int .i64 0,.int .i64 0,.bool false]) 4 32 Tryz.underlying46 hi hz0 hz1 hz2 rfl (by decide) _ _ _ rfl (O2'.alloc _) ⟨w2.heap.size+1,0,none⟩ 1 1 [.int .i64 y0,.int .i64 (y1:Int),.int .i64 (y2:Int),.bool y3] rfl rfl ?d1 ?d2 ?d3 ?d4 ?d5 ?_)
    try
     case d1 =>
      intro j u hj
      match j,hj with
      | 0,hj=>simp at hj;subst hj;first | (simp [Addr.add];done) | exact cell_new7 (by simp) rfl
      | 1,hj=>simp at hj;subst hj;first | (simp [Addr.add];done) | exact cell_new7 (by simp) rfl
      | 2,hj=>simp at hj;subst hj;first | (simp [Addr.add];done) | exact cell_new7 (by simp) rfl
      | 3,hj=>simp at hj;subst hj;first | (simp [Addr.add];done) | exact cell_new7 (by simp) rfl
    case d2=>first | exact lifV_one (y0,y1,y2,y3) | exact ⟨rfl,rfl,rfl,rfl⟩
    case d3=>unfold maxLen;omega
    case d4=>omega
    case d5=>simp;omega
    intro v' w3 own3 g3 _
    have B3:Below w.heap.size w w3:=(B2'.alloc B2'.size _).grown g3 (by have:=B2'.size;simp at this ⊢;omega) (fun j hj=>(hrow.lt j hj).1)
    go_wp2_with fail
    refine ⟨?relA,?meaA⟩
    case relA=>exact ⟨k+1,c+1,by omega,by omega,by first | go_num | simp,HL',B3,by rw [HV.out];exact own3⟩
    case meaA=>simp [intOf];omega
   ·obtain ⟨f,hf⟩:=Option.ne_none_iff_exists'.1 d
    rw [hf] at D1
    simp only [oI] at D1
    have HA:Hid (liveAt h k=none):=by show _=_;unfold liveAt;rw [HX.out,if_neg d]
    have HL':Hid (((List.range (k+1)).filterMap (liveAt h)).length=c):=by show _=_;rw [lives_next,HA.out,Option.toList_none,List.append_nil,HL.out]
    have HV:Hid (recV lifV ((List.range (k+1)).filterMap (liveAt h))=recV lifV ((List.range k).filterMap (liveAt h))):=by show _=_;rw [lives_next,HA.out,Option.toList_none,List.append_nil]
    have jf:¬ (f:Int) < 0:=by omega
    clear hf d
    go_wp2_with fail
    refine (D1 _ hbw).mono ?_
    rintro e w1 ⟨rfl,b1⟩
    have B1:=bel_trans hbw b1
    have O1:=owns_below hrow b1
    go_wp2_with fail
    refine ⟨?relB,?meaB⟩
    case relB=>exact ⟨k+1,c,by omega,by omega,by first | go_num | simp,HL',B1,by rw [HV.out];exact O1⟩
    case meaB=>simp [intOf];omega
  ·obtain rfl:k=n:=by omega
   have HE:Hid (livesL h=(List.range k).filterMap (liveAt h)):=by show livesL h=_;unfold livesL;rw [HN.out];rfl
   go_wp2_with fail
   go_ret
   refine ⟨_,rfl,hbw,?_⟩
   rw [HE.out,HL.out]
   exact hrow
end Go.Proofs.YtiihegldhnlleaaGreat
