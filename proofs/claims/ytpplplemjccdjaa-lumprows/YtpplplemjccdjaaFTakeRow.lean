/-
  What lump.TakeRow answers, at whatever bytes.
-/
import Derived.Test.YtpplplemjccdjaaFTakeText
import Derived.Test.YtpplplemjccdjaaStrs
import Derived.Test.YtpplplemjccdjaaOwns
namespace Go.Proofs.Ytpplplemjccdjaa
open Go.RowKit
attribute [local go_sem] ba_size ba_get ba_extract ba_append wrap_byte wrap_u64_byte take_drop_end
set_option maxHeartbeats 1000000 in
theorem takeRow_any (s : List UInt8) (many most : Int) (w : World) (hs : s.length ≤ 9223372036854775807) :
    Calls Try.prog 24 #[.string ⟨s.toArray⟩, .int .i64 many, .int .i64 most] w fun e w' => (∃ a n cap, e = .returned (.tuple #[.slice a n cap, .string ⟨(Lm.takeRowL s many most).2.1.toArray⟩, .int .i64 ((Lm.takeRowL s many most).2.2 : Int)]) ∧ IsStrs w' a n (Lm.takeRowL s many most).1) ∧ Below w.heap.size w w' := by
  have hbd := takeLenL_bd s many
  have hc := takeLength_any s many w hs
  unfold Lm.takeRowL
  generalize Lm.takeLenL s many = x at *
  obtain ⟨n, rest, e⟩ := x
  have HC : Hid (Calls Try.prog 29 #[.string ⟨s.toArray⟩, .int .i64 many] w fun e' w' => e' = .returned (.tuple #[.int .i64 (n : Int), .string ⟨rest.toArray⟩, .int .i64 (e : Int)]) ∧ Below w.heap.size w w') := hc
  simp only at hbd
  clear hc
  by_cases he : e ≠ 0
  · simp only [he, ne_eq, not_false_eq_true, if_true]
    have hb : ((e : Int) == 0) = false := by simp; omega
    go_enter Try.func24, Try.ntmps24
    go_wp2_with fail
    refine HC.out.mono ?_
    rintro e w1 ⟨rfl, hb1⟩
    go_wp2_with fail
    go_ret3
    exact ⟨⟨none, 0, 0, rfl, rfl, by simp, by omega, .inl rfl⟩, hb1⟩
  · have he' : e = 0 := by omega
    subst he'
    clear he
    simp only [ne_eq, not_true_eq_false, if_false]
    obtain ⟨i0, hi, hz0, hz1, hz2⟩ := info_parts str_info
    obtain ⟨hn, hrs⟩ := hbd
    have hrl : rest.length ≤ 9223372036854775807 := by omega
    by_cases hmin : rest.length < n
    · go_enter Try.func24, Try.ntmps24
      go_wp2_with fail
      refine HC.out.mono ?_
      rintro e w1 ⟨rfl, hb1⟩
      go_wp2_with (at_make; refine wpList_make_own _ rfl _ _ 41 rfl w.heap.size 9 i0 (.string ByteArray.empty) 1 Try.underlying41 hi hz0 hz1 .i64 .i64 _ rest.length rfl rfl rfl ?c1 ?c2 ?c3 ?_)
      case c1 => rw [hz2]; omega
      case c2 => unfold maxLen; omega
      case c3 => have := hb1.size; omega
      intro w2 hown2 hgrow2
      have hbw : Below w.heap.size w w2 := hb1.grown hgrow2 hb1.size (by intro k hk; cases hk)
      clear hb1 hgrow2
      have HP0 : Hid (Lm.takeN n rest most = Lm.pre [] (Lm.takeN (n - 0) rest most)) := (Lm.pre_nil _ (Lm.takeN_bad n rest most)).symm
      have HO2 : Hid (w2.ownsRow w.heap.size 9 1 (.slice (some ⟨w1.heap.size, 0, none⟩) 0 rest.length) 0 (strV [])) := hown2
      clear hown2
      go_wp2_with fail
      go_loopw [10, 12, 30] (fun r v i wr => ∃ (k : Nat) (l : List (List UInt8)) (q : List UInt8), k ≤ n ∧ i = .int .i64 k ∧ r = .string ⟨q.toArray⟩ ∧ q.length ≤ 9223372036854775807 ∧ Hid (wr.ownsRow w.heap.size 9 1 v k (strV l)) ∧ Hid (∀ t ∈ l, t.length ≤ 65535) ∧ Hid (Lm.takeN n rest most = Lm.pre l (Lm.takeN (n - k) q most)) ∧ Below w.heap.size w wr)
        (fun _ _ i _ => n - (intOf i).toNat)
      case atStart => exact ⟨0, [], rest, Nat.zero_le _, rfl, rfl, hrl, HO2, (fun t ht => by cases ht), HP0, hbw⟩
      case round =>
        obtain ⟨k, l, q, hk, rfl, rfl, hql, HO, HA, HP, hbk⟩ := hrel
        by_cases hlt : k < n
        · obtain ⟨m, hm⟩ : ∃ m, n - k = m + 1 := ⟨n - k - 1, by omega⟩
          have HM : Hid (n - k = m + 1) := hm
          clear hm
          have hbt := takeTextL_bd q most
          have hct := takeText_any q most wr hql
          have hstep : ((Lm.takeTextL q most).2.2 ≠ 0 ∧ Lm.takeN n rest most = ([], [], (Lm.takeTextL q most).2.2)) ∨ ((Lm.takeTextL q most).2.2 = 0 ∧ Lm.takeN n rest most = Lm.pre (l ++ [(Lm.takeTextL q most).1]) (Lm.takeN (n - (k + 1)) (Lm.takeTextL q most).2.1 most)) := by
            have hp := HP.out
            rw [HM.out] at hp
            have hm1 : n - (k + 1) = m := by have := HM.out; omega
            by_cases h0 : (Lm.takeTextL q most).2.2 = 0
            · right; exact ⟨h0, by rw [hp, Lm.pre_step_ok l m q most h0, hm1]⟩
            · left; exact ⟨h0, by rw [hp, Lm.pre_step_bad l m q most h0]⟩
          generalize Lm.takeTextL q most = y at *
          obtain ⟨t, q', e'⟩ := y
          have HCT : Hid (Calls Try.prog 20 #[.string ⟨q.toArray⟩, .int .i64 most] wr fun e w' => e = .returned (.tuple #[.string ⟨t.toArray⟩, .string ⟨q'.toArray⟩, .int .i64 (e' : Int)]) ∧ Below wr.heap.size wr w') := hct
          clear hct
          simp only at hbt
          obtain ⟨hbt1, hbt2⟩ := hbt
          rcases hstep with ⟨h0, hF⟩ | ⟨h0, hF⟩
          · have HF : Hid (Lm.takeN n rest most = ([], [], e')) := hF
            have hb : ((e' : Int) == 0) = false := by simp at h0 ⊢; omega
            clear hF h0
            go_wp2_with fail
            refine HCT.out.mono ?_
            rintro e w3 ⟨rfl, hb3⟩
            go_wp2_with fail
            go_ret3
            refine ⟨⟨none, 0, 0, ?_, ?_⟩, bel_trans hbk hb3⟩
            · rw [HF.out]; rfl
            · rw [HF.out]; exact ⟨rfl, by simp, by omega, .inl rfl⟩
          · have HF : Hid (Lm.takeN n rest most = Lm.pre (l ++ [t]) (Lm.takeN (n - (k + 1)) q' most)) := hF
            have h0' : e' = 0 := h0
            subst h0'
            clear hF h0
            go_wp2_with fail
            refine HCT.out.mono ?_
            rintro e w3 ⟨rfl, hb3⟩
            have hown3 : w3.ownsRow w.heap.size 9 1 u12 k (strV l) := owns_below HO.out hb3
            have hs3 := hb3.size
            have hs4 := hbk.size
            go_wp2_with (at_builtin; refine wpList_append_own _ rfl _ _ 41 rfl w.heap.size 9 i0 (.string ByteArray.empty) 1 16 Try.underlying41 hi hz0 hz1 hz2 rfl (by decide) _ _ _ rfl (hown3.alloc _) ⟨w3.heap.size, 0, none⟩ 1 1 [.string ⟨t.toArray⟩] rfl rfl ?d1 ?d2 ?d3 ?d4 ?d5 ?_)
            case d1 =>
              intro j u hj
              match j, hj with
              | 0, hj => simp at hj; subst hj; simp [Addr.add]
            case d2 => intro u hu; simp at hu; subst hu; rfl
            case d3 => unfold maxLen; omega
            case d4 => omega
            case d5 => simp; omega
            intro v' w4 hown4 hgrow4 _
            have HO4 : Hid (w4.ownsRow w.heap.size 9 1 v' (k + 1) (strV (l ++ [t]))) := by
              show w4.ownsRow _ _ _ _ _ _
              rw [strV_snoc]; exact hown4
            have hbk4 : Below w.heap.size w w4 := ((bel_trans hbk hb3).alloc (by omega) _).grown hgrow4 (by simp; omega) (fun j hj => (hown3.lt j hj).1)
            have HA4 : Hid (∀ x ∈ l ++ [t], x.length ≤ 65535) := by
              intro x hx
              rcases List.mem_append.1 hx with h | h
              · exact HA.out x h
              · simp at h; subst h; exact hbt1
            clear hown4 hgrow4 hown3 hb3
            go_wp2
            go_roundw
            case rel => exact ⟨k + 1, l ++ [t], q', by omega, by go_num, rfl, by omega, HO4, HA4, HF, hbk4⟩
            case measure => simp [intOf]; omega
        · obtain rfl : k = n := by omega
          have HF : Hid (Lm.takeN k rest most = (l, q, 0)) := by
            show Lm.takeN k rest most = _
            rw [HP.out, Nat.sub_self, Lm.takeN]
            simp [Lm.pre]
          obtain ⟨a, cap, hv, hst⟩ := strs_own HO.out hn HA.out
          have HV : Hid (u12 = .slice a k cap) := hv
          have HST : Hid (IsStrs wr a k l) := hst
          clear hv hst
          go_wp2
          go_ret3
          refine ⟨⟨a, k, cap, ?_, ?_⟩, hbk⟩
          · rw [HF.out, ← HV.out]; rfl
          · rw [HF.out]; exact HST.out
    · go_enter Try.func24, Try.ntmps24
      go_wp2_with fail
      refine HC.out.mono ?_
      rintro e w1 ⟨rfl, hb1⟩
      go_wp2_with (at_make; refine wpList_make_own _ rfl _ _ 41 rfl w.heap.size 9 i0 (.string ByteArray.empty) 1 Try.underlying41 hi hz0 hz1 .i64 .i64 _ n rfl rfl rfl ?c1 ?c2 ?c3 ?_)
      case c1 => rw [hz2]; omega
      case c2 => unfold maxLen; omega
      case c3 => have := hb1.size; omega
      intro w2 hown2 hgrow2
      have hbw : Below w.heap.size w w2 := hb1.grown hgrow2 hb1.size (by intro k hk; cases hk)
      clear hb1 hgrow2
      have HP0 : Hid (Lm.takeN n rest most = Lm.pre [] (Lm.takeN (n - 0) rest most)) := (Lm.pre_nil _ (Lm.takeN_bad n rest most)).symm
      have HO2 : Hid (w2.ownsRow w.heap.size 9 1 (.slice (some ⟨w1.heap.size, 0, none⟩) 0 n) 0 (strV [])) := hown2
      clear hown2
      go_wp2_with fail
      go_loopw [10, 12, 30] (fun r v i wr => ∃ (k : Nat) (l : List (List UInt8)) (q : List UInt8), k ≤ n ∧ i = .int .i64 k ∧ r = .string ⟨q.toArray⟩ ∧ q.length ≤ 9223372036854775807 ∧ Hid (wr.ownsRow w.heap.size 9 1 v k (strV l)) ∧ Hid (∀ t ∈ l, t.length ≤ 65535) ∧ Hid (Lm.takeN n rest most = Lm.pre l (Lm.takeN (n - k) q most)) ∧ Below w.heap.size w wr)
        (fun _ _ i _ => n - (intOf i).toNat)
      case atStart => exact ⟨0, [], rest, Nat.zero_le _, rfl, rfl, hrl, HO2, (fun t ht => by cases ht), HP0, hbw⟩
      case round =>
        obtain ⟨k, l, q, hk, rfl, rfl, hql, HO, HA, HP, hbk⟩ := hrel
        by_cases hlt : k < n
        · obtain ⟨m, hm⟩ : ∃ m, n - k = m + 1 := ⟨n - k - 1, by omega⟩
          have HM : Hid (n - k = m + 1) := hm
          clear hm
          have hbt := takeTextL_bd q most
          have hct := takeText_any q most wr hql
          have hstep : ((Lm.takeTextL q most).2.2 ≠ 0 ∧ Lm.takeN n rest most = ([], [], (Lm.takeTextL q most).2.2)) ∨ ((Lm.takeTextL q most).2.2 = 0 ∧ Lm.takeN n rest most = Lm.pre (l ++ [(Lm.takeTextL q most).1]) (Lm.takeN (n - (k + 1)) (Lm.takeTextL q most).2.1 most)) := by
            have hp := HP.out
            rw [HM.out] at hp
            have hm1 : n - (k + 1) = m := by have := HM.out; omega
            by_cases h0 : (Lm.takeTextL q most).2.2 = 0
            · right; exact ⟨h0, by rw [hp, Lm.pre_step_ok l m q most h0, hm1]⟩
            · left; exact ⟨h0, by rw [hp, Lm.pre_step_bad l m q most h0]⟩
          generalize Lm.takeTextL q most = y at *
          obtain ⟨t, q', e'⟩ := y
          have HCT : Hid (Calls Try.prog 20 #[.string ⟨q.toArray⟩, .int .i64 most] wr fun e w' => e = .returned (.tuple #[.string ⟨t.toArray⟩, .string ⟨q'.toArray⟩, .int .i64 (e' : Int)]) ∧ Below wr.heap.size wr w') := hct
          clear hct
          simp only at hbt
          obtain ⟨hbt1, hbt2⟩ := hbt
          rcases hstep with ⟨h0, hF⟩ | ⟨h0, hF⟩
          · have HF : Hid (Lm.takeN n rest most = ([], [], e')) := hF
            have hb : ((e' : Int) == 0) = false := by simp at h0 ⊢; omega
            clear hF h0
            go_wp2_with fail
            refine HCT.out.mono ?_
            rintro e w3 ⟨rfl, hb3⟩
            go_wp2_with fail
            go_ret3
            refine ⟨⟨none, 0, 0, ?_, ?_⟩, bel_trans hbk hb3⟩
            · rw [HF.out]; rfl
            · rw [HF.out]; exact ⟨rfl, by simp, by omega, .inl rfl⟩
          · have HF : Hid (Lm.takeN n rest most = Lm.pre (l ++ [t]) (Lm.takeN (n - (k + 1)) q' most)) := hF
            have h0' : e' = 0 := h0
            subst h0'
            clear hF h0
            go_wp2_with fail
            refine HCT.out.mono ?_
            rintro e w3 ⟨rfl, hb3⟩
            have hown3 : w3.ownsRow w.heap.size 9 1 u12 k (strV l) := owns_below HO.out hb3
            have hs3 := hb3.size
            have hs4 := hbk.size
            go_wp2_with (at_builtin; refine wpList_append_own _ rfl _ _ 41 rfl w.heap.size 9 i0 (.string ByteArray.empty) 1 16 Try.underlying41 hi hz0 hz1 hz2 rfl (by decide) _ _ _ rfl (hown3.alloc _) ⟨w3.heap.size, 0, none⟩ 1 1 [.string ⟨t.toArray⟩] rfl rfl ?d1 ?d2 ?d3 ?d4 ?d5 ?_)
            case d1 =>
              intro j u hj
              match j, hj with
              | 0, hj => simp at hj; subst hj; simp [Addr.add]
            case d2 => intro u hu; simp at hu; subst hu; rfl
            case d3 => unfold maxLen; omega
            case d4 => omega
            case d5 => simp; omega
            intro v' w4 hown4 hgrow4 _
            have HO4 : Hid (w4.ownsRow w.heap.size 9 1 v' (k + 1) (strV (l ++ [t]))) := by
              show w4.ownsRow _ _ _ _ _ _
              rw [strV_snoc]; exact hown4
            have hbk4 : Below w.heap.size w w4 := ((bel_trans hbk hb3).alloc (by omega) _).grown hgrow4 (by simp; omega) (fun j hj => (hown3.lt j hj).1)
            have HA4 : Hid (∀ x ∈ l ++ [t], x.length ≤ 65535) := by
              intro x hx
              rcases List.mem_append.1 hx with h | h
              · exact HA.out x h
              · simp at h; subst h; exact hbt1
            clear hown4 hgrow4 hown3 hb3
            go_wp2
            go_roundw
            case rel => exact ⟨k + 1, l ++ [t], q', by omega, by go_num, rfl, by omega, HO4, HA4, HF, hbk4⟩
            case measure => simp [intOf]; omega
        · obtain rfl : k = n := by omega
          have HF : Hid (Lm.takeN k rest most = (l, q, 0)) := by
            show Lm.takeN k rest most = _
            rw [HP.out, Nat.sub_self, Lm.takeN]
            simp [Lm.pre]
          obtain ⟨a, cap, hv, hst⟩ := strs_own HO.out hn HA.out
          have HV : Hid (u12 = .slice a k cap) := hv
          have HST : Hid (IsStrs wr a k l) := hst
          clear hv hst
          go_wp2
          go_ret3
          refine ⟨⟨a, k, cap, ?_, ?_⟩, hbk⟩
          · rw [HF.out, ← HV.out]; rfl
          · rw [HF.out]; exact HST.out
theorem takeRow_back (ss : List (List UInt8)) (hok : Lm.rowOk ss = true) (n : Nat) (hn : ss.length = n) (more : List UInt8) (hm : more.length ≤ 140737488351232) (w : World) :
    Calls Try.prog 24 #[.string ⟨(Lm.lenL n ++ (Lm.body ss ++ more)).toArray⟩, .int .i64 n, .int .i64 65535] w fun e w' => (∃ a n' cap, e = .returned (.tuple #[.slice a n' cap, .string ⟨more.toArray⟩, .int .i64 0]) ∧ IsStrs w' a n' ss) ∧ Below w.heap.size w w' := by
  subst hn
  have hr := (Lm.rowOk_iff ss).1 hok
  have h1 := Lm.body_length ss hr.2
  have h2 := Lm.lenL_le ss.length
  have h := takeRow_any (Lm.lenL ss.length ++ (Lm.body ss ++ more)) ss.length 65535 w (by simp only [List.length_append]; omega)
  rw [← List.append_assoc, Lm.takeRow_row ss hok more] at h
  rw [← List.append_assoc]
  exact h
theorem takeRow_cut (ss : List (List UInt8)) (hok : Lm.rowOk ss = true) (n : Nat) (hn : ss.length = n) (T : List UInt8) (hT : Lm.lenL n ++ Lm.body ss = T) (c : Nat) (hc : c < T.length) (w : World) :
    Calls Try.prog 24 #[.string ⟨(T.take c).toArray⟩, .int .i64 n, .int .i64 65535] w fun e w' => (∃ a n' cap l, e = .returned (.tuple #[.slice a n' cap, .string l, .int .i64 2])) ∧ Below w.heap.size w w' := by
  subst hn hT
  have hr := (Lm.rowOk_iff ss).1 hok
  have h1 := Lm.body_length ss hr.2
  have h2 := Lm.lenL_le ss.length
  have h := takeRow_any ((Lm.lenL ss.length ++ Lm.body ss).take c) ss.length 65535 w (by simp only [List.length_append, List.length_take]; omega)
  rw [Lm.takeRow_short ss hok c hc] at h
  refine h.mono ?_
  rintro e w' ⟨⟨a, n', cap, rfl, -⟩, hb⟩
  exact ⟨⟨_, _, _, _, rfl⟩, hb⟩
end Go.Proofs.Ytpplplemjccdjaa
